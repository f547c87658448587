"""The interface as the document lists it, for all modules that are there."""

import importlib
import inspect
import os
import re
import unittest

ROOT = os.path.dirname(os.path.dirname(os.path.abspath(__file__)))
DOC = os.path.join(os.path.dirname(ROOT), "shared", "DOC.md")


def sections():
    """Return (module, lines) of the interface's sections."""
    with open(DOC, encoding="utf-8") as file:
        text = file.read().split("# The interface", 1)[1]
    for part in text.split("\n## ")[1:]:
        lines = part.split("\n")
        yield lines[0].strip(), lines[1:]


def told_parameters(text):
    """Return (name, default as written or None) of what stands in parentheses."""
    call = inspect.signature(eval("lambda " + re.sub(r"=([A-Z][A-Z_]+)\b", r"='\1'", text) + ": 0"))
    return [(part.name, part.default) for part in call.parameters.values()]


def own_parameters(function, skip):
    rows = [(part.name, part.default) for part in inspect.signature(function).parameters.values()]
    return rows[skip:]


@unittest.skipUnless(os.path.isfile(DOC), "the document is not here")
class InterfaceTest(unittest.TestCase):
    def modules(self):
        for path, lines in sections():
            if os.path.isfile(os.path.join(ROOT, path)):
                yield importlib.import_module(path[:-3].replace("/", ".")), lines

    def check_call(self, where, function, text, skip=0):
        told = told_parameters(text)
        self.assertEqual([name for name, _ in own_parameters(function, skip)], [name for name, _ in told], where)
        for (_, own), (_, default) in zip(own_parameters(function, skip), told):
            if not (isinstance(default, str) and default.isupper()):
                self.assertEqual(own, default, where)

    def check_line(self, module, line, owner):
        """Check a line, and return the class that the lines below it belong to."""
        found = re.match(r"- class `(\w+)`", line)
        if found:
            owner = getattr(module, found.group(1))
            self.assertEqual(owner.__module__, module.__name__)
            self.assertTrue(owner.__doc__)
            return owner
        found = re.match(r"- `(\w+) = (.*)`$", line)
        if found:
            self.assertEqual(getattr(module, found.group(1)), eval(found.group(2)), line)
        found = re.match(r"- `(\w+)\((.*?)\)`:", line)
        if found:
            function = getattr(module, found.group(1))
            self.assertEqual(function.__module__, module.__name__)
            self.check_call(line, function, found.group(2))
        found = re.match(r"  - `(\w+)\((.*?)\)`", line)
        if found and found.group(1) == owner.__name__:
            self.assertIn("__init__", vars(owner), line)
            self.check_call(line, vars(owner)["__init__"], found.group(2), 1)
        elif found:
            self.assertIn(found.group(1), vars(owner), line)
            self.check_call(line, vars(owner)[found.group(1)], found.group(2), 1)
        return owner

    def test_all_names_arguments_and_values_are_there(self):
        many = 0
        for module, lines in self.modules():
            owner = None
            for line in lines:
                owner = self.check_line(module, line, owner)
                many += 1
        self.assertGreater(many, 100)

    def objects(self):
        """Return an object of each class with fields, by the class's name."""
        from wirestack import (agreed, balance, broker, cache, certificates, console, copies, deltas, errors, frames, linkmaps,
                               links, mail, messages, names, network, octets, origin, packets, queues, ring, routes, rules,
                               running, seals, sessions, streams, translate, zones)
        net = network.Network()
        host = net.add_host("a")
        endpoint = host.endpoint
        circle = ring.Ring((1, 2, 3))
        found = (octets.Reader(()), frames.Deframer(), packets.Packet(1, 2, 3, 4, 0, 1, ()), packets.Assembler(),
                 links.Link("a", "b"), routes.Routes(1), streams.Stream(2, 1, 1, "opening"), endpoint,
                 seals.Keys(1, 1), seals.Seal(5, True), messages.Request("GET", "/", 1), messages.Answer(200, 1),
                 messages.MessageReader(True), sessions.Session(endpoint, endpoint.connect(2), 5, True), net, host,
                 errors.FilterError("jump"), rules.Rule("drop", {}), rules.Guard((("drop",),)), origin.Origin(),
                 cache.Entry("1", "", 2, 3), cache.Cache(), names.NameTable(host), names.NameAsker(host, 2),
                 running.OriginRun(host, origin.Origin(), 1), running.Asker(host, 2, 1),
                 running.ClientRun(host, 2, 1, []), running.CacheRun(host, 2, 1), circle, copies.CopyStore(host, circle),
                 linkmaps.Statement(1, 1, ()), linkmaps.LinkMap(1), queues.Bucket(1, 1), queues.FairQueue(),
                 mail.Mail(1, 1, "a@b", "c@d", ""), mail.Relay(host, "a", [], {}),
                 certificates.Certificate("a", 1, "b", 1, 1, 1, 1, 1), deltas.Sums(1, 1, ()), agreed.Asking(1, 1, 1),
                 agreed.Clock(), zones.Zone("a", 1), zones.Resolver(1, None), balance.Server("a", 1), translate.Flow(1, 1, 1, 1, 1),
                 translate.Translator(1, [2]), broker.NewsRow(1), broker.Broker(host), broker.Follower(host, 1),
                 console.Console())
        return {one.__class__.__name__: one for one in found}

    def test_listed_fields_are_set_when_an_object_is_created(self):
        kinds = {"list": list, "table": dict, "tuple": tuple}
        by_name = self.objects()
        seen = []
        for module, lines in self.modules():
            owner = None
            for line in lines:
                owner = self.check_line(module, line, owner)
                if line.startswith("  - fields:"):
                    for name, kind in re.findall(r"(\w+)(?: \[(\w+)\])?(?:,|$)", line.split(":", 1)[1]):
                        self.assertIn(name, vars(by_name[owner.__name__]), line)
                        if kind:
                            self.assertIsInstance(getattr(by_name[owner.__name__], name), kinds[kind])
                    seen.append(owner.__name__)
        self.assertEqual(sorted(seen), sorted(by_name))

    def test_fields_that_are_read_from_outside(self):
        """The fields that point 18 names."""
        by_name = self.objects()
        for name, fields in (("Reader", "data place"), ("Deframer", "damaged"), ("Assembler", "waiting"),
                             ("Packet", "source target hops number place last body"), ("FilterError", "word row"),
                             ("Link", "first second room up on_way lost arrived"), ("Stream", "state fault peer number"),
                             ("Endpoint", "listening"), ("Seal", "state ended"), ("Keys", "masking tagging"),
                             ("Request", "method path number heads body"), ("Answer", "code number heads body"),
                             ("MessageReader", "held"), ("Origin", "resources versions done"),
                             ("Cache", "entries hits asked_again"), ("CacheRun", "cache"), ("Entry", "version text time fresh"),
                             ("NameTable", "rows"), ("NameAsker", "kept asked"), ("ClientRun", "events left"),
                             ("Host", "name address clock endpoint routes runs guard services"), ("Network", "hosts links time"),
                             ("Guard", "rows cells accepted dropped"), ("Rule", "word spans most"), ("Ring", "addresses rows"),
                             ("CopyStore", "host events rows"), ("Statement", "address serial links"),
                             ("LinkMap", "address serial statements ages"), ("Bucket", "saved"),
                             ("FairQueue", "rows order credit"), ("Mail", "origin number sender target text passed word"),
                             ("Relay", "boxes"), ("Certificate", "mark name below"), ("Sums", "rows"), ("Asking", "seen_time"),
                             ("Clock", "seen_time owed"), ("Zone", "name keeps rows below"), ("Resolver", "asked"),
                             ("Server", "ahead fails rests_until load weight name"), ("Translator", "flows"),
                             ("Flow", "opener number outer peer used"), ("Broker", "log"), ("Follower", "host news_read"),
                             ("NewsRow", "things"), ("Console", "network")):
            for field in fields.split():
                self.assertIn(field, vars(by_name[name]), name)


if __name__ == "__main__":
    unittest.main()
