"""Point 1: the main promises, all of them in one network at once, whatever its links do."""

import random
import unittest

from wirestack.broker import Broker, Follower
from wirestack.copies import CopyStore, same_copies
from wirestack.counts import knows, seen_by
from wirestack.errors import FilterError, SocketError
from wirestack.filters import SIGNS, TESTS, run_filter
from wirestack.mail import Relay
from wirestack.messages import Request
from wirestack.network import Network
from wirestack.origin import Origin
from wirestack.ring import Ring
from wirestack.rules import Guard, compiled, parse_rules
from wirestack.running import CacheRun, ClientRun, OriginRun
from wirestack.verifier import is_safe

NAMES = "abcdef"
KEYS = ("k", "l")
PATHS = ("/x", "/y")


class Listening:
    """What hears streams that others open, reads what comes at times, and sends it back doubled."""

    def __init__(self, host, chance):
        self.host = host
        self.chance = chance
        self.streams = []
        host.endpoint.listen()

    def tick(self):
        stream = self.host.endpoint.accept()
        while stream is not None:
            self.streams.append((stream, []))
            stream = self.host.endpoint.accept()
        for stream, got in self.streams:
            if self.chance.random() < 0.7:
                data = stream.read(self.chance.choice((7, 100, 1000)))
                got.extend(data)
                try:
                    stream.send(tuple([byte ^ 1 for byte in data]))
                    if stream.is_over():
                        stream.close()
                except SocketError:
                    pass


class Talking:
    """What opens a stream, sends bytes, ends it, and reads what comes back."""

    def __init__(self, host, target, chance):
        self.sent = tuple([chance.randrange(256) for _ in range(chance.randrange(900))])
        self.stream = host.endpoint.connect(target)
        self.got = ()
        self.stream.send(self.sent)
        self.stream.close()

    def tick(self):
        self.got = self.got + self.stream.read()


class Everything:
    """A network of six hosts on which all runs at once, its links going by choices; and what came of it."""

    def __init__(self, seed):
        self.chance = random.Random(seed)
        self.net = Network()
        self.hosts = [self.net.add_host(name) for name in NAMES]
        for number in range(1, 6):
            self.add_link(self.chance.randrange(number), number)
        for _ in range(2):
            self.add_link(*self.chance.sample(range(6), 2))
        self.states = {path: [(0, None)] for path in PATHS}
        self.set_up_requests()
        self.set_up_others()

    def add_link(self, one, other):
        if self.hosts[other].address not in self.hosts[one].ports:
            self.net.add_link(NAMES[one], NAMES[other], self.chance.choice((20, 60, 100, 400)))

    def set_up_requests(self):
        a, b, c, d = self.hosts[:4]
        self.origin = Origin(self.chance.choice((0, 8, 40)))
        carry = self.origin.carry

        def carrying(sender, request):
            answer = carry(sender, request)
            rows = self.states[request.path]
            if rows[-1][1] != self.origin.resources.get(request.path):
                rows.append((self.net.time, self.origin.resources.get(request.path)))
            return answer

        self.origin.carry = carrying
        a.runs.append(OriginRun(a, self.origin, 1))
        b.runs.append(CacheRun(b, 1, 2, self.chance.choice((1, 5))))
        self.clients = [ClientRun(host, self.chance.choice((1, 2)), host.address, self.requests()) for host in (c, d)]
        for client in self.clients:
            client.host.runs.append(client)
        self.asked = [list(client.left) for client in self.clients]

    def requests(self):
        found = []
        for number in range(self.chance.randrange(1, 5)):
            method = self.chance.choice(("GET", "GET", "HEAD", "PUT", "APPEND", "DELETE"))
            body = f"{number};" * self.chance.randrange(1, 30) if method in ("PUT", "APPEND") else ""
            found.append(Request(method, self.chance.choice(PATHS), number, (), body))
        return found

    def set_up_others(self):
        ring = Ring([host.address for host in self.hosts])
        self.stores = [CopyStore(host, ring) for host in self.hosts]
        self.relays = [Relay(host, host.name, ["p"], {other.name: other.address for other in self.hosts if other != host})
                       for host in self.hosts]
        self.broker = Broker(self.hosts[2])
        self.followers = [Follower(host, 3) for host in self.hosts if host.address != 3]
        self.listening = Listening(self.hosts[4], self.chance)
        self.talking = [Talking(self.hosts[5], 5, self.chance) for _ in range(2)]
        for run in self.stores + self.relays + [self.broker] + self.followers:
            run.host.runs.append(run)
        self.hosts[4].runs.append(self.listening)
        self.hosts[5].runs.extend(self.talking)
        rules = self.chance.choice(("accept", "drop from 6 to 5 most 2; accept", "drop size 60-90 most 9; accept"))
        self.chance.choice(self.hosts).guard_by(Guard(compiled(parse_rules(rules))))
        self.posted = []
        self.wished = {follower.host.address: [] for follower in self.followers}

    def do_something(self, step):
        deed = self.chance.randrange(5)
        store = self.chance.choice(self.stores)
        if deed == 0:
            store.read(self.chance.choice(KEYS))
        elif deed == 1:
            store.write(self.chance.choice(KEYS), self.chance.choice((f"text {step}", None)))
        elif deed == 2:
            relay = self.chance.choice(self.relays)
            target = self.chance.choice(("p", "q")) + "@" + self.chance.choice(NAMES + "z")
            self.posted.append((relay.host.address, relay.post(f"p@{relay.place}", target, str(step)), target))
        else:
            follower = self.chance.choice(self.followers)
            wish = self.chance.choice((("publish", "m/n", str(step)), ("keep", "m", str(step)), ("follow", "m/#", ""),
                                       ("leave", "m/#", "")))
            self.wished[follower.host.address].append((follower.host.address, follower.wish(*wish)) + wish)

    def is_done(self):
        runs = self.clients + self.relays + self.followers + [self.broker]
        # Where one side of a stream has failed, the other one may wait for ever.
        failed = [stream.key() for stream, _ in self.listening.streams if stream.state == "failed"]
        over = all(one.stream.state in ("failed", "closed") or one.stream.key() in failed for one in self.talking)
        return over and all(run.is_done() for run in runs) and all(store.is_calm() for store in self.stores)

    def go(self, many):
        for step in range(many):
            if self.chance.random() < 0.03:
                self.do_something(step)
            self.net.act(self.chance.randrange(10 ** 12))
        self.net.settle(self.is_done)
        self.net.settle(lambda: all(same_copies(self.stores, key) for key in KEYS))
        for _ in range(30):
            self.net.round()


class PromisesTest(unittest.TestCase):
    SEEDS = range(40)

    def setUp(self):
        self.all = []

    def check_requests(self, found):
        for client, asked in zip(found.clients, found.asked):
            self.assertEqual([event[0] for event in client.events], asked)
            for request, begin, answer, end in client.events:
                many = found.origin.done.count((client.name, request.number))
                if request.changes():
                    self.assertIn(many, (1,) if answer.code < 300 else (0, 1) if answer.code == 504 else (0,))
                elif answer.code != 504:
                    kept = found.origin.fresh if client.target == 2 else 0
                    self.assertTrue(self.was_so(found.states[request.path], request, begin - kept, answer, end))

    def was_so(self, rows, request, begin, answer, end):
        """Return True if what was read was so between a time and the answer's."""
        for (time, state), (until, _) in zip(rows, rows[1:] + [(end, None)]):
            if time <= end and until >= begin:
                if state is None and answer.code == 404:
                    return True
                if state is not None and (answer.code, answer.heads.get("version")) == (200, str(state[0])):
                    return answer.body == (state[1] if request.method == "GET" else "")
        return False

    def check_streams(self, found):
        heard = {stream.key(): (stream, tuple(got)) for stream, got in found.listening.streams}
        for talking in found.talking:
            other, got = heard.get(talking.stream.key(), (None, ()))
            self.assertEqual(got, talking.sent[:len(got)])
            self.assertEqual(talking.got, tuple([byte ^ 1 for byte in got])[:len(talking.got)])
            if talking.stream.is_done():
                self.assertEqual(got + other.read(), talking.sent)
            if talking.stream.is_over():
                self.assertEqual(len(talking.got), len(got))

    def check_copies(self, found):
        events = [event for store in found.stores for event in store.events]
        for event in events:
            if event[1] == "write":
                counts = event[5][0][0]
                for other in events:
                    if other[1:3] == ("read", event[2]) and other[3] > event[4]:
                        self.assertTrue(knows(seen_by(other[5]), counts))
                for store in found.stores:
                    if store.host.address in store.holders(event[2]):
                        self.assertTrue(knows(seen_by(store.siblings(event[2])), counts))

    def check_mail(self, found):
        rows = []
        for origin, number, target in found.posted:
            person, place = target.split("@")
            word = "nowhere" if place == "z" else "nobody" if person == "q" else ""
            rows.append((origin, number, target, word, place if word == "" else NAMES[origin - 1]))
        boxes = [(mail.origin, mail.number, mail.target, mail.word, relay.place) for relay in found.relays
                 for mail in relay.boxes["p"]]
        self.assertEqual(sorted(boxes), sorted(rows))

    def check_news(self, found):
        follows, kept = {}, None
        told = {address: [] for address in found.wished}
        for address, _, deed, topic, text in found.broker.log:
            if deed in ("follow", "leave"):
                if deed == "follow" and not follows.get(address) and kept is not None:
                    told[address].append(("m", kept))
                follows[address] = deed == "follow"
            else:
                kept = text if deed == "keep" else kept
                for one in told:
                    if follows.get(one):
                        told[one].append((topic, text))
        for address, rows in found.wished.items():
            self.assertEqual([row for row in found.broker.log if row[0] == address], rows)
        self.assertEqual({one.host.address: one.news_read for one in found.followers}, told)

    def test_all_at_once(self):
        done = 0
        for seed in self.SEEDS:
            with self.subTest(seed=seed):
                found = Everything(seed)
                found.go(found.chance.randrange(500, 2500))
                self.check_requests(found)
                self.check_streams(found)
                self.check_copies(found)
                self.check_mail(found)
                self.check_news(found)
                done += len([one for one in found.talking if one.stream.is_done()])
        self.assertGreater(done, len(self.SEEDS))

    def drawn_filter(self, chance):
        many = chance.randrange(2, 9)
        rows = []
        for number in range(many):
            place = chance.randrange(number + 1, many + 1)
            one, other = chance.randrange(3), chance.randrange(3)
            rows.append(chance.choice((("set", one, chance.choice((0, 1, 5, 60))), ("move", one, other), ("size", one),
                                       ("op", chance.choice(SIGNS), one, other), ("need", chance.choice((1, 5, 64)), place),
                                       ("load", one, chance.choice((0, 1, 60)), chance.choice((1, 2, 4))),
                                       ("at", one, other, chance.choice((1, 2, 4))), ("get", one, 3), ("put", 3, one),
                                       ("if", chance.choice(TESTS), one, other, place))))
        return tuple(rows) + (chance.choice((("accept",), ("drop",))), ("accept",))

    def test_a_filter_that_the_verifier_lets_by_never_goes_astray_as_a_guard(self):
        safe = 0
        for seed in range(1500):
            chance = random.Random(seed)
            rows = self.drawn_filter(chance)
            if not is_safe(rows):
                continue
            safe += 1
            net = Network()
            for name in "abc":
                net.add_host(name)
            net.add_link("a", "b", 20)
            net.add_link("b", "c", 100)
            net.hosts["b"].guard_by(Guard(rows))
            for _ in range(60):
                net.act(chance.randrange(10 ** 9))
            cells = [chance.choice((0, 4294967295)) for _ in range(8)]
            for size in (0, 1, 4, 5, 63, 64, 65, 400):
                try:
                    run_filter(rows, tuple([chance.randrange(256) for _ in range(size)]), cells)
                except FilterError as error:
                    self.fail((rows, size, error.word))
        self.assertGreater(safe, 40)


if __name__ == "__main__":
    unittest.main()
