"""The interface as the document lists it, for all modules that are there."""

import importlib
import inspect
import os
import re
import unittest

ROOT = os.path.dirname(os.path.dirname(os.path.abspath(__file__)))
DOC = os.path.join(os.path.dirname(ROOT), "shared", "DOC.md")


def sections():
    """Return (module, lines) of the interface's sections."""
    with open(DOC, encoding="utf-8") as file:
        text = file.read().split("# The interface", 1)[1]
    for part in text.split("\n## ")[1:]:
        lines = part.split("\n")
        yield lines[0].strip(), lines[1:]


def told_parameters(text):
    """Return (name, default as written or None) of what stands in parentheses."""
    call = inspect.signature(eval("lambda " + re.sub(r"=([A-Z_]+)", r"='\1'", text) + ": 0"))
    return [(part.name, part.default) for part in call.parameters.values()]


def own_parameters(function, skip):
    rows = [(part.name, part.default) for part in inspect.signature(function).parameters.values()]
    return rows[skip:]


@unittest.skipUnless(os.path.isfile(DOC), "the document is not here")
class InterfaceTest(unittest.TestCase):
    def modules(self):
        for path, lines in sections():
            if os.path.isfile(os.path.join(ROOT, path)):
                yield importlib.import_module(path[:-3].replace("/", ".")), lines

    def check_call(self, where, function, text, skip=0):
        told = told_parameters(text)
        self.assertEqual([name for name, _ in own_parameters(function, skip)], [name for name, _ in told], where)
        for (_, own), (_, default) in zip(own_parameters(function, skip), told):
            if not (isinstance(default, str) and default.isupper()):
                self.assertEqual(own, default, where)

    def check_line(self, module, line, owner):
        """Check a line, and return the class that the lines below it belong to."""
        found = re.match(r"- class `(\w+)`", line)
        if found:
            owner = getattr(module, found.group(1))
            self.assertEqual(owner.__module__, module.__name__)
            self.assertTrue(owner.__doc__)
            return owner
        found = re.match(r"- `(\w+) = (.*)`$", line)
        if found:
            self.assertEqual(getattr(module, found.group(1)), eval(found.group(2)), line)
        found = re.match(r"- `(\w+)\((.*?)\)`:", line)
        if found:
            function = getattr(module, found.group(1))
            self.assertEqual(function.__module__, module.__name__)
            self.check_call(line, function, found.group(2))
        found = re.match(r"  - `(\w+)\((.*?)\)`", line)
        if found and found.group(1) == owner.__name__:
            self.assertIn("__init__", vars(owner), line)
            self.check_call(line, vars(owner)["__init__"], found.group(2), 1)
        elif found:
            self.assertIn(found.group(1), vars(owner), line)
            self.check_call(line, vars(owner)[found.group(1)], found.group(2), 1)
        return owner

    def test_all_names_arguments_and_values_are_there(self):
        many = 0
        for module, lines in self.modules():
            owner = None
            for line in lines:
                owner = self.check_line(module, line, owner)
                many += 1
        self.assertGreater(many, 100)

    def test_listed_fields_are_set_when_an_object_is_created(self):
        from wirestack import (filters, frames, links, messages, octets, packets, routes, seals, sessions,
                               streams)
        endpoint = streams.Endpoint(1)
        objects = (octets.Reader(()), frames.Deframer(), packets.Packet(1, 2, 3, 4, 0, 1, ()), packets.Assembler(),
                   links.Link("a", "b"), routes.Row(1, 2, 3), routes.Routes(1), streams.Stream(2, 1, 1, "opening"), endpoint,
                   seals.Keys(1, 1), seals.Seal(5, True), messages.Request("GET", "/", 1), messages.Answer(200, 1),
                   messages.MessageReader(True), sessions.Session(endpoint, endpoint.connect(2), 5, True))
        kinds = {"list": list, "table": dict, "tuple": tuple}
        by_name = {one.__class__.__name__: one for one in objects}
        seen = 0
        for module, lines in self.modules():
            owner = None
            for line in lines:
                owner = self.check_line(module, line, owner)
                if line.startswith("  - fields:") and owner.__name__ in by_name:
                    for name, kind in re.findall(r"(\w+)(?: \[(\w+)\])?(?:,|$)", line.split(":", 1)[1]):
                        self.assertIn(name, vars(by_name[owner.__name__]), line)
                        if kind:
                            self.assertIsInstance(getattr(by_name[owner.__name__], name), kinds[kind])
                    seen += 1
        self.assertGreaterEqual(seen, 13)
        self.assertEqual(filters.__name__, "wirestack.filters")


class FieldTest(unittest.TestCase):
    """The fields that point 18 names."""

    def test_fields_that_are_read_from_outside(self):
        from wirestack import frames, links, messages, octets, packets, seals, streams
        for one, names in ((octets.Reader((1,)), "data place"), (frames.Deframer(), "damaged"),
                           (packets.Packet(1, 2, 3, 4, 0, 1, ()), "source target hops number place last body"),
                           (packets.Assembler(), "waiting"),
                           (links.Link("a", "b"), "first second room up on_way lost arrived"),
                           (streams.Stream(2, 1, 1, "opening"), "state fault peer number"),
                           (streams.Endpoint(1), "listening"), (seals.Seal(5, True), "state ended"),
                           (seals.Keys(1, 1), "masking tagging"),
                           (messages.Request("GET", "/", 1), "method path number heads body"),
                           (messages.Answer(200, 1), "code number heads body"), (messages.MessageReader(True), "held")):
            for name in names.split():
                self.assertIn(name, vars(one))


if __name__ == "__main__":
    unittest.main()
