import random
import unittest

from wirestack.errors import MessageError
from wirestack.messages import Answer, Request, answer_bytes, request_bytes
from wirestack.names import NameAsker, NameTable
from wirestack.network import Network
from wirestack.octets import fixed_number
from wirestack.origin import Origin
from wirestack.rules import Guard, compiled, parse_rules
from wirestack.running import Asker, CacheRun, ClientRun, OriginRun
from wirestack.seals import raised
from wirestack.sessions import Session
from wirestack.streams import OPEN, read_segment


def secrets(seed, many):
    """Return the first secrets that are drawn from a seed, as the document tells."""
    found = []
    for _ in range(many):
        seed = (1103515245 * seed + 12345) % 2147483648
        found.append(2 + seed % 2147483000)
    return found


def codes(client):
    return [answer.code for _, _, answer, _ in client.events]


class Pausing:
    """Something that runs only while it is let."""

    def __init__(self, run):
        self.run = run
        self.goes = True

    def tick(self):
        if self.goes:
            self.run.tick()


class RunCase(unittest.TestCase):
    """Hosts in a row, a and b and so on, with links between them."""

    def build(self, many=2):
        self.net = Network()
        self.hosts = [self.net.add_host("abcdefgh"[number]) for number in range(many)]
        for one, other in zip(self.hosts, self.hosts[1:]):
            self.net.add_link(one.name, other.name)
        self.go(3 * many)
        return self.hosts

    def go(self, rounds):
        for _ in range(rounds):
            self.net.round()

    def serve(self, host, fresh=30, seed=1):
        origin = Origin(fresh)
        host.runs.append(OriginRun(host, origin, seed))
        return origin

    def client(self, host, target, *requests, **more):
        client = ClientRun(host, target, more.pop("seed", 5), list(requests), **more)
        host.runs.append(client)
        return client

    def opened(self, host):
        """Let a host write down the streams that it opens, as (clock, stream); return the row."""
        found = []
        connect = host.endpoint.connect

        def connecting(peer):
            stream = connect(peer)
            found.append((host.clock, stream))
            return stream

        host.endpoint.connect = connecting
        return found

    def first_bytes(self, host):
        """Let a host write down the numbers in hellos of the streams that are opened to it; return the row."""
        found = {}
        receive = host.endpoint.receive

        def receiving(source, data):
            segment = read_segment(data)
            if segment[0] == OPEN and segment[3] == 0 and len(segment[7]) >= 6:
                found[segment[1:3]] = fixed_number(segment[7][2:6])
            receive(source, data)

        host.endpoint.receive = receiving
        return found

    def session(self, host, target, secret=99):
        return Session(host.endpoint, host.endpoint.connect(target), secret, True)

    def talk(self, session, rounds):
        """Go rounds; return what came to a session."""
        found = []
        for _ in range(rounds):
            self.net.round()
            found.extend(session.tick())
        return [answer.shown() for answer in found]


class OriginRunTest(RunCase):
    def test_fields(self):
        host, _ = self.build()
        origin = Origin()
        run = OriginRun(host, origin, 1)
        self.assertIs(run.origin, origin)
        self.assertTrue(host.endpoint.listening)
        self.assertEqual(host.runs, [])

    def test_requests_of_a_session_are_answered_in_order(self):
        one, two = self.build()
        origin = self.serve(two)
        session = self.session(one, 2)
        for request in (Request("PUT", "/a", 7, {"from": "ann"}, "x" * 900), Request("GET", "/a", 8), Request("HEAD", "/b", 9),
                        Request("APPEND", "/a", 10, {"from": "bob"}, "y"), Request("GET", "/a", 11)):
            session.send(request_bytes(request))
        found = self.talk(session, 30)
        self.assertEqual([(row[0], row[1]) for row in found], [(201, 7), (200, 8), (404, 9), (200, 10), (200, 11)])
        self.assertEqual((found[1][3], found[4][3]), ("x" * 900, "x" * 900 + "y"))
        self.assertEqual(origin.done, [("ann", 7), ("bob", 10)])

    def test_several_sessions(self):
        one, two, three = self.build(3)
        origin = self.serve(two)
        sessions = [self.session(one, 2, 11), self.session(three, 2, 12), self.session(one, 2, 13)]
        for number, session in enumerate(sessions):
            session.send(request_bytes(Request("PUT", f"/{number}", number, {"from": str(number)})))
        found = [[], [], []]
        for _ in range(12):
            for row, session in zip(found, sessions):
                row.extend(self.talk(session, 1))
        self.assertEqual([[row[:2] for row in rows] for rows in found], [[(201, 0)], [(201, 1)], [(201, 2)]])
        self.assertEqual(sorted(origin.done), [("0", 0), ("1", 1), ("2", 2)])

    def test_the_sender_is_the_head_from(self):
        one, two = self.build()
        origin = self.serve(two)
        session = self.session(one, 2)
        for sender in ("ann", "bob", "ann"):
            session.send(request_bytes(Request("APPEND", "/a", 4, {"from": sender}, "x")))
        found = self.talk(session, 10)
        self.assertEqual([dict(row[2])["version"] for row in found], ["1", "2", "1"])
        self.assertEqual(origin.done, [("ann", 4), ("bob", 4)])

    def test_a_side_ends_when_the_other_one_has_ended_and_all_is_answered(self):
        one, two = self.build()
        self.serve(two)
        session = self.session(one, 2)
        session.send(request_bytes(Request("GET", "/a", 1)))
        session.send(request_bytes(Request("GET", "/b", 2)))
        session.end()
        self.assertEqual([row[:2] for row in self.talk(session, 20)], [(404, 1), (404, 2)])
        session.seal.check_over()
        self.assertEqual((session.fault, session.stream.state), (None, "closed"))

    def test_a_session_goes_on_as_long_as_the_other_side_has_not_ended(self):
        one, two = self.build()
        self.serve(two)
        session = self.session(one, 2)
        self.talk(session, 150)
        session.send(request_bytes(Request("GET", "/a", 1)))
        self.assertEqual(len(self.talk(session, 10)), 1)
        self.assertEqual((session.seal.state, session.stream.state), ("open", "open"))

    def test_a_damaged_session_does_not_stop_the_others(self):
        one, two = self.build()
        self.serve(two)
        stream = one.endpoint.connect(2)
        stream.send((5, 9, 9, 9, 9, 9, 200, 200, 200))
        other = self.session(one, 2)
        other.send(request_bytes(Request("GET", "/a", 1)))
        self.assertEqual([row[0] for row in self.talk(other, 10)], [404])
        # The other side ends its stream, and takes no notice of what still comes.
        stream.send((1, 2, 3) * 300)
        stream.close()
        for _ in range(20):
            self.go(1)
            stream.read()
        self.assertEqual(stream.state, "closed")
        self.assertEqual(list(two.endpoint.streams), [other.stream.key()])

    def test_secrets_are_drawn_from_the_seed_on(self):
        one, two = self.build()
        self.serve(two, seed=77)
        streams = []
        for secret in (11, 12, 13):
            streams.append(self.session(one, 2, secret).stream)
        self.go(8)
        hellos = [stream.read(6) for stream in streams]
        self.assertEqual([fixed_number(hello[2:]) for hello in hellos], [raised(7, secret) for secret in secrets(77, 3)])


class AskerTest(RunCase):
    def test_fields_and_ask(self):
        one, two = self.build()
        self.serve(two)
        asker = Asker(one, 2, 5)
        self.assertIs(asker.host, one)
        self.assertEqual(asker.target, 2)
        self.assertIsNone(asker.tick())
        asker.ask(Request("GET", "/a", 3))
        found = []
        for _ in range(10):
            self.net.round()
            answer = asker.tick()
            if answer is not None:
                self.assertIsInstance(answer, Answer)
                found.append(answer.shown())
        self.assertEqual(found, [(404, 3, (), "")])

    def test_a_request_that_cannot_be_told(self):
        one, _ = self.build()
        opened = self.opened(one)
        asker = Asker(one, 2, 5)
        with self.assertRaises(MessageError):
            asker.ask(Request("GET", "a", 3))
        self.assertEqual(opened, [])
        self.assertIsNone(asker.tick())


class ClientTest(RunCase):
    def test_fields(self):
        one, _ = self.build()
        requests = [Request("GET", "/a", 1)]
        client = ClientRun(one, 2, 5, requests)
        self.assertEqual((client.name, client.target, client.left, client.events), ("a", 2, requests, []))
        self.assertIsNot(client.left, requests)
        self.assertIsInstance(client, Asker)
        self.assertFalse(client.is_done())
        self.assertTrue(ClientRun(one, 2, 5, []).is_done())
        self.assertEqual(one.runs, [])

    def test_requests_one_after_another_on_one_session(self):
        one, two = self.build()
        origin = self.serve(two)
        opened = self.opened(one)
        requests = [Request("PUT", "/a", 1, (), "x"), Request("APPEND", "/a", 2, (), "y"), Request("GET", "/a", 3),
                    Request("DELETE", "/a", 4), Request("HEAD", "/a", 5)]
        client = self.client(one, 2, *requests)
        begin = one.clock
        self.net.settle(client.is_done)
        self.assertEqual(codes(client), [201, 200, 200, 204, 404])
        self.assertEqual([event[0] for event in client.events], requests)
        self.assertEqual([event[2].number for event in client.events], [1, 2, 3, 4, 5])
        self.assertEqual(client.events[2][2].body, "xy")
        self.assertEqual(len(opened), 1)
        self.assertEqual(origin.done, [("a", 1), ("a", 2), ("a", 4)])
        times = [(event[1], event[3]) for event in client.events]
        self.assertEqual(times[0][0], begin + 1)
        self.assertTrue(all(asked < answered for asked, answered in times))
        self.assertTrue(all(one[1] <= other[0] for one, other in zip(times, times[1:])))
        self.assertEqual((client.left, requests[0].heads), ([], {}))

    def test_requests_may_be_added(self):
        one, two = self.build()
        self.serve(two)
        client = self.client(one, 2)
        self.go(5)
        client.left.append(Request("GET", "/a", 1))
        self.assertFalse(client.is_done())
        self.go(1)
        self.assertFalse(client.is_done())
        self.net.settle(client.is_done)
        client.left.append(Request("GET", "/a", 2))
        self.net.settle(client.is_done)
        self.assertEqual(codes(client), [404, 404])

    def test_over_many_links(self):
        hosts = self.build(6)
        origin = self.serve(hosts[5])
        client = self.client(hosts[0], 6, Request("PUT", "/a", 1, (), "x" * 1400), Request("GET", "/a", 2))
        self.net.settle(client.is_done)
        self.assertEqual((codes(client), client.events[1][2].body, origin.done), ([201, 200], "x" * 1400, [("a", 1)]))

    def test_no_answer_for_more_than_60_ticks_four_times_in_all(self):
        one, two = self.build()
        two.endpoint.listen()
        opened = self.opened(one)
        client = self.client(one, 2, Request("PUT", "/a", 1), Request("GET", "/a", 2))
        begin = one.clock + 1
        while len(client.events) < 1:
            self.net.round()
        self.assertEqual([clock - begin for clock, _ in opened[:4]], [0, 61, 122, 183])
        request, asked, answer, answered = client.events[0]
        self.assertEqual((request.number, asked - begin, answer.shown(), answered - begin), (1, 0, (504, 1, (), ""), 244))
        self.net.settle(client.is_done)
        self.assertEqual((codes(client), len(opened)), ([504, 504], 8))
        self.assertTrue(all(stream.closing for _, stream in opened))

    def answering(self, host, answers):
        """Let a host answer each request by a function of its session and the request."""
        host.endpoint.listen()
        sessions = []

        class Run:
            def tick(self):
                stream = host.endpoint.accept()
                if stream is not None:
                    sessions.append(Session(host.endpoint, stream, 9, False))
                for session in sessions:
                    for request in session.tick():
                        answers(session, request)

        host.runs.append(Run())
        return sessions

    def test_answers_to_other_numbers_do_not_count(self):
        one, two = self.build()

        def answers(session, request):
            for number in (request.number + 1, request.number, request.number + 2):
                session.send(answer_bytes(Answer(200, number, (), str(number))))

        self.answering(two, answers)
        client = self.client(one, 2, Request("GET", "/a", 7), Request("GET", "/a", 9))
        self.net.settle(client.is_done)
        self.assertEqual([event[2].body for event in client.events], ["7", "9"])

    def test_a_session_that_ends_with_its_answer(self):
        one, two = self.build()

        def answers(session, request):
            session.send(answer_bytes(Answer(200, request.number)))
            session.end()

        self.answering(two, answers)
        opened = self.opened(one)
        client = self.client(one, 2, *[Request("GET", "/a", number) for number in range(6)])
        self.net.settle(client.is_done)
        self.assertEqual((codes(client), len(opened)), ([200] * 6, 6))
        self.assertEqual([clock for clock, _ in opened[1:]], [event[3] for event in client.events[:-1]])

    def test_a_session_that_the_other_side_ends_while_there_is_nothing_to_ask(self):
        one, two = self.build()
        sessions = self.answering(two, lambda session, request: session.send(answer_bytes(Answer(200, request.number))))
        opened = self.opened(one)
        client = self.client(one, 2, Request("GET", "/a", 1))
        self.net.settle(client.is_done)
        sessions[0].end()
        self.go(8)
        self.assertEqual((opened[0][1].state, len(opened)), ("closed", 1))
        client.left.append(Request("GET", "/a", 2))
        self.net.settle(client.is_done)
        self.assertEqual((codes(client), len(opened)), ([200, 200], 2))

    def test_a_session_is_ended_in_order(self):
        one, two = self.build()
        sessions = self.answering(two, lambda session, request: session.send(answer_bytes(Answer(200, request.number))))
        client = self.client(one, 2, Request("GET", "/a", 1))
        self.net.settle(client.is_done)
        self.go(210)
        sessions[0].seal.check_over()
        self.assertEqual(sessions[0].fault, None)

    def test_heads_of_requests_go_along(self):
        one, two = self.build()
        origin = self.serve(two)
        client = self.client(one, 2, Request("PUT", "/a", 1, {"only": "3"}, "x"), Request("PUT", "/a", 2, {"only": "0"}, "y"),
                             Request("GET", "/a", 3, {"unless": "1"}))
        self.net.settle(client.is_done)
        self.assertEqual((codes(client), origin.done), ([412, 201, 304], [("a", 2)]))

    def test_a_session_that_fails(self):
        one, two = self.build()
        opened = self.opened(one)
        client = self.client(one, 2, Request("GET", "/a", 1))
        self.net.settle(client.is_done)
        self.assertEqual((codes(client), len(opened)), ([504], 4))
        self.assertEqual([stream.fault for _, stream in opened[:3]], ["refused"] * 3)
        self.assertLess(client.events[0][3] - client.events[0][1], 20)

    def test_it_asks_again_on_a_new_session_when_one_fails(self):
        one, two = self.build()
        opened = self.opened(one)
        client = self.client(one, 2, Request("GET", "/a", 1))
        self.go(4)
        self.assertEqual([stream.fault for _, stream in opened[:1]], ["refused"])
        self.serve(two)
        self.net.settle(client.is_done)
        self.assertEqual(codes(client), [404])

    def test_a_request_that_is_carried_out_later_all_the_same_and_only_once(self):
        one, two = self.build()
        origin = Origin()
        run = Pausing(OriginRun(two, origin, 1))
        two.runs.append(run)
        client = self.client(one, 2, Request("APPEND", "/a", 1, (), "x"), Request("GET", "/a", 2))
        while client.session is None or not client.session.is_sealed():
            self.net.round()
        run.goes = False
        while len(client.events) < 1:
            self.net.round()
        self.assertEqual((codes(client), origin.done), ([504], []))
        run.goes = True
        self.net.settle(client.is_done)
        self.go(300)
        self.assertEqual((origin.done, origin.resources), ([("a", 1)], {"/a": (1, "x")}))
        self.assertEqual(codes(client)[0], 504)

    def test_a_change_that_is_asked_again_is_carried_out_once(self):
        one, two = self.build()
        origin = self.serve(two)
        opened = self.opened(one)
        client = self.client(one, 2, Request("APPEND", "/a", 1, (), "x"))
        # Answers to the first session get lost.
        link = self.net.links[0]
        while origin.done == []:
            self.net.round()
        while len(opened) < 2:
            link.on_way[:] = [row for row in link.on_way if row[0] == "b"]
            self.net.round()
        self.net.settle(client.is_done)
        self.assertEqual((codes(client), origin.done, origin.resources["/a"]), ([201], [("a", 1)], (1, "x")))

    def test_a_session_with_nothing_to_ask_is_ended_after_more_than_200_ticks(self):
        one, two = self.build()
        self.serve(two)
        opened = self.opened(one)
        client = self.client(one, 2, Request("GET", "/a", 1))
        self.net.settle(client.is_done)
        stream = opened[0][1]
        answered = client.events[0][3]
        while not stream.closing:
            self.net.round()
        self.assertEqual(one.clock - answered, 201)
        self.assertEqual(stream.fault, None)
        self.go(10)
        self.assertEqual((stream.state, two.endpoint.streams), ("closed", {}))
        client.left.append(Request("GET", "/b", 2))
        self.net.settle(client.is_done)
        self.assertEqual((codes(client), len(opened)), ([404, 404], 2))

    def test_a_session_that_is_used_goes_on(self):
        one, two = self.build()
        self.serve(two)
        opened = self.opened(one)
        client = self.client(one, 2)
        for number in range(4):
            client.left.append(Request("GET", "/a", number))
            self.go(199)
        self.assertEqual((codes(client), len(opened)), ([404] * 4, 1))

    def test_a_session_that_the_other_side_ends(self):
        one, two = self.build()
        two.endpoint.listen()
        opened = self.opened(one)
        client = self.client(one, 2, Request("GET", "/a", 1))
        other = None
        while other is None:
            self.net.round()
            other = two.endpoint.accept()
        server = Session(two.endpoint, other, 9, False)
        for _ in range(6):
            server.tick()
            self.net.round()
        server.end()
        self.go(3)
        self.serve(two)
        self.net.settle(client.is_done)
        self.assertEqual((codes(client), len(opened)), ([404], 2))

    def test_the_row_of_secrets(self):
        one, two = self.build()
        two.endpoint.listen()
        hellos = self.first_bytes(two)
        client = self.client(one, 2, Request("GET", "/a", 1), seed=5)
        self.net.settle(client.is_done)
        self.assertEqual(list(hellos.values()), [raised(7, secret) for secret in secrets(5, 4)])

    def test_secrets_of_other_seeds(self):
        for seed in (0, 1, 2147483647, 10 ** 12):
            one, two = self.build()
            two.endpoint.listen()
            hellos = self.first_bytes(two)
            self.client(one, 2, Request("GET", "/a", 1), seed=seed)
            self.go(5)
            self.assertEqual(list(hellos.values()), [raised(7, secret) for secret in secrets(seed, 1)])

    def test_links_that_are_down_meanwhile(self):
        one, two = self.build()
        origin = self.serve(two)
        client = self.client(one, 2, *[Request("APPEND", "/a", number, (), "x") for number in range(1, 5)])
        self.net.links[0].set_up(False)
        self.go(100)
        self.net.settle(client.is_done)
        self.assertEqual((codes(client), origin.resources["/a"]), ([201, 200, 200, 200], (4, "xxxx")))


class NameTargetTest(RunCase):
    def build_names(self):
        hosts = self.build(4)
        self.table = NameTable(hosts[1])
        self.origins = [self.serve(hosts[2]), self.serve(hosts[3])]
        self.names = NameAsker(hosts[0], 2)
        return hosts

    def test_a_target_that_is_a_name(self):
        hosts = self.build_names()
        self.table.set_name("server", 3, 100)
        client = self.client(hosts[0], "server", Request("PUT", "/a", 1, (), "x"), Request("GET", "/a", 2), names=self.names)
        self.assertEqual(client.target, "server")
        self.net.settle(client.is_done)
        self.assertEqual((codes(client), client.target, self.origins[0].done), ([201, 200], "server", [("a", 1)]))

    def test_the_name_is_looked_up_for_each_request(self):
        hosts = self.build_names()
        self.table.set_name("server", 3, 10)
        opened = self.opened(hosts[0])
        client = self.client(hosts[0], "server", Request("PUT", "/a", 1), names=self.names)
        self.net.settle(client.is_done)
        self.table.set_name("server", 4, 10)
        self.go(20)
        client.left.append(Request("PUT", "/b", 2))
        self.net.settle(client.is_done)
        self.assertEqual([origin.done for origin in self.origins], [[("a", 1)], [("a", 2)]])
        self.assertEqual([stream.peer for _, stream in opened], [3, 4])
        self.go(20)
        self.assertEqual(opened[0][1].state, "closed")

    def test_one_session_as_long_as_the_name_leads_to_the_same(self):
        hosts = self.build_names()
        self.table.set_name("server", 3, 4)
        opened = self.opened(hosts[0])
        client = self.client(hosts[0], "server", *[Request("GET", "/a", number) for number in range(5)], names=self.names)
        self.net.settle(client.is_done)
        self.assertEqual((codes(client), len(opened)), ([404] * 5, 1))

    def test_an_unknown_name_has_no_answer(self):
        hosts = self.build_names()
        opened = self.opened(hosts[0])
        client = self.client(hosts[0], "server", Request("GET", "/a", 1), Request("GET", "/a", 2), names=self.names)
        self.net.settle(client.is_done)
        self.assertEqual((codes(client), [event[2].number for event in client.events]), ([504, 504], [1, 2]))
        self.assertEqual(opened, [])
        self.assertLess(client.events[1][3], 40)

    def test_a_name_that_is_kept_for_no_tick_ends_without_an_answer(self):
        hosts = self.build_names()
        self.table.set_name("server", 3, 0)
        client = self.client(hosts[0], "server", Request("GET", "/a", 1), names=self.names)
        self.net.settle(client.is_done)
        self.assertEqual(codes(client), [504])
        self.assertEqual(client.events[0][3] - client.events[0][1], 240)

    def test_the_askers_ticks_are_called(self):
        hosts = self.build_names()
        self.table.set_name("server", 3, 100)
        client = self.client(hosts[0], "server", Request("GET", "/a", 1), names=self.names)
        # The first question gets lost.
        self.go(1)
        self.net.links[0].on_way.clear()
        self.net.settle(client.is_done)
        self.assertEqual(codes(client), [404])


class CacheRunTest(RunCase):
    """Hosts a and c with clients, b with a cache, d with an origin."""

    def build_cache(self, fresh=30, most=20):
        hosts = self.build(4)
        self.origin = self.serve(hosts[3], fresh)
        self.run_of_cache = CacheRun(hosts[1], 4, 7, most)
        hosts[1].runs.append(self.run_of_cache)
        self.cache = self.run_of_cache.cache
        self.asked = []
        carry = self.origin.carry

        def carrying(sender, request):
            self.asked.append((hosts[3].clock, sender, request.shown()))
            return carry(sender, request)

        self.origin.carry = carrying
        return hosts

    def test_answers_by_what_it_keeps(self):
        hosts = self.build_cache(200)
        client = self.client(hosts[0], 2, Request("PUT", "/a", 1, (), "x"), Request("GET", "/a", 2), Request("GET", "/a", 3),
                             Request("HEAD", "/a", 4))
        self.net.settle(client.is_done)
        self.assertEqual(codes(client), [201, 200, 200, 200])
        self.assertEqual([event[2].body for event in client.events], ["", "x", "x", ""])
        self.assertEqual((len(self.asked), self.cache.hits, self.cache.asked_again), (2, 2, 0))
        self.assertEqual(self.asked[0][1], "a")
        self.assertIn("age", client.events[2][2].heads)

    def test_the_time_of_an_entry_is_when_it_was_asked_for(self):
        hosts = self.build_cache(200)
        client = self.client(hosts[0], 2, Request("PUT", "/a", 1, (), "x"), Request("GET", "/a", 2))
        self.net.settle(client.is_done)
        _, asked, _, answered = client.events[1]
        self.assertTrue(asked <= self.cache.entries["/a"].time < answered - 2)
        self.assertLessEqual(self.cache.entries["/a"].time, self.asked[1][0])

    def test_a_stale_entry_is_asked_for_again(self):
        hosts = self.build_cache(20)
        client = self.client(hosts[0], 2, Request("PUT", "/a", 1, (), "x"), Request("GET", "/a", 2))
        self.net.settle(client.is_done)
        self.go(20)
        client.left.append(Request("GET", "/a", 3))
        self.net.settle(client.is_done)
        self.assertEqual((codes(client), client.events[2][2].body), ([201, 200, 200], "x"))
        self.assertEqual(dict(self.asked[2][2][3])["unless"], "1")
        self.assertEqual((self.cache.hits, self.cache.asked_again), (0, 1))

    def test_one_request_at_a_time(self):
        hosts = self.build_cache()
        clients = [self.client(host, 2, *[Request("GET", f"/{host.name}{number}", number) for number in range(4)])
                   for host in (hosts[0], hosts[2])]
        opened = self.opened(hosts[1])
        self.net.settle(lambda: all(client.is_done() for client in clients))
        self.assertEqual([codes(client) for client in clients], [[404] * 4] * 2)
        times = [clock for clock, _, _ in self.asked]
        # Two links lie between the cache and the origin: an answer and the next question take four rounds.
        self.assertTrue(all(other - one >= 4 for one, other in zip(times, times[1:])), times)
        self.assertEqual((len(times), len(opened)), (8, 1))

    def test_requests_of_one_session_are_answered_in_order(self):
        hosts = self.build_cache(200)
        client = self.client(hosts[2], 2, Request("PUT", "/a", 1, (), "x"), Request("GET", "/a", 2))
        self.net.settle(client.is_done)
        session = self.session(hosts[0], 2)
        for number, path in enumerate(("/a", "/b", "/a", "/c", "/a")):
            session.send(request_bytes(Request("GET", path, number)))
        found = self.talk(session, 60)
        self.assertEqual([row[:2] for row in found], [(200, 0), (404, 1), (200, 2), (404, 3), (200, 4)])
        self.assertEqual(self.cache.hits, 3)

    def test_what_is_kept_is_answered_while_the_origin_is_asked(self):
        hosts = self.build_cache(300)
        client = self.client(hosts[2], 2, Request("PUT", "/a", 1, (), "x"), Request("GET", "/a", 2))
        self.net.settle(client.is_done)
        self.net.links[2].set_up(False)
        client.left.append(Request("GET", "/b", 3))
        self.go(10)
        other = self.client(hosts[0], 2, Request("GET", "/a", 1))
        self.go(20)
        self.assertEqual((codes(other), codes(client)), ([200], [201, 200]))

    def test_requests_of_a_session_that_was_cut_off_are_not_asked_any_more(self):
        hosts = self.build_cache(300)
        other = self.session(hosts[0], 2)
        self.talk(other, 10)
        self.net.links[2].set_up(False)
        self.client(hosts[2], 2, Request("GET", "/a", 1))
        self.go(8)
        other.send(request_bytes(Request("GET", "/b", 2)))
        self.go(8)
        other.stream.close()
        self.go(8)
        self.net.links[2].set_up(True)
        self.go(100)
        self.assertEqual([row[2][1] for row in self.asked], ["/a"])

    def test_a_change_goes_through_and_drops_the_entry(self):
        hosts = self.build_cache(500)
        client = self.client(hosts[0], 2, Request("PUT", "/a", 1, (), "x"), Request("GET", "/a", 2),
                             Request("PUT", "/a", 3, (), "y"), Request("GET", "/a", 4))
        self.net.settle(client.is_done)
        self.assertEqual([event[2].body for event in client.events], ["", "x", "", "y"])
        self.assertEqual(self.origin.done, [("a", 1), ("a", 3)])

    def test_an_origin_that_does_not_answer(self):
        hosts = self.build_cache(500)
        client = self.client(hosts[0], 2, Request("PUT", "/a", 1, (), "x"), Request("GET", "/a", 2))
        self.net.settle(client.is_done)
        self.net.links[2].set_up(False)
        client.left.append(Request("PUT", "/a", 3, (), "y"))
        self.go(1200)
        self.assertEqual(codes(client), [201, 200, 504])
        self.assertEqual(self.cache.entries, {})
        client.left.append(Request("GET", "/a", 4))
        self.net.settle(client.is_done)
        self.assertEqual(codes(client)[3], 200)
        self.assertLessEqual(self.origin.done.count(("a", 3)), 1)

    def test_most_entries(self):
        hosts = self.build_cache(500, 2)
        client = self.client(hosts[0], 2, *[Request(method, f"/{path}", number, (), "x") for number, (method, path) in
                                            enumerate([("PUT", path) for path in "abc"] + [("GET", path) for path in "abc"])])
        self.net.settle(client.is_done)
        self.assertEqual(list(self.cache.entries), ["/b", "/c"])
        self.assertEqual(CacheRun(hosts[0], 4, 7).cache.most, 20)

    def test_sessions_end_when_the_other_side_has_ended(self):
        hosts = self.build_cache()
        session = self.session(hosts[0], 2)
        session.send(request_bytes(Request("GET", "/a", 1)))
        session.send(request_bytes(Request("GET", "/b", 2)))
        session.end()
        self.assertEqual([row[:2] for row in self.talk(session, 60)], [(404, 1), (404, 2)])
        session.seal.check_over()
        self.assertEqual(session.stream.state, "closed")

    def test_the_session_to_the_origin_ends_after_more_than_200_ticks(self):
        hosts = self.build_cache()
        opened = self.opened(hosts[1])
        client = self.client(hosts[0], 2, Request("GET", "/a", 1))
        self.net.settle(client.is_done)
        self.go(190)
        self.assertEqual(opened[0][1].state, "open")
        self.go(40)
        self.assertEqual(opened[0][1].state, "closed")

    def test_secrets_of_both_sides_are_of_the_row(self):
        hosts = self.build_cache()
        hellos = self.first_bytes(hosts[3])
        session = self.session(hosts[0], 2)
        session.send(request_bytes(Request("GET", "/a", 1)))
        hello = ()
        for _ in range(10):
            self.net.round()
            hello = hello + session.stream.read(6 - len(hello))
            if len(hello) == 6:
                break
        drawn = [raised(7, secret) for secret in secrets(7, 2)]
        self.assertEqual(fixed_number(hello[2:]), drawn[0])
        session.take(hello)
        self.talk(session, 20)
        self.assertEqual(list(hellos.values()), drawn[1:])


class ChanceTest(RunCase):
    """Point 1: answered or told that there is no answer, and changes once, whatever the links do."""

    def build_bad(self, chance):
        self.net = Network()
        many = chance.randint(3, 6)
        self.hosts = [self.net.add_host(f"h{number}") for number in range(many)]
        for number in range(1, many):
            self.net.add_link(f"h{chance.randrange(number)}", f"h{number}", chance.choice((20, 60, 100, 500)))
        for _ in range(3):
            one, other = chance.sample(self.hosts, 2)
            if other.address not in one.ports:
                self.net.add_link(one.name, other.name, chance.choice((20, 60, 200)))

    def requests(self, chance, first):
        found = []
        for number in range(first, first + chance.randint(1, 7)):
            method = chance.choice(("GET", "GET", "GET", "HEAD", "PUT", "APPEND", "DELETE"))
            body = f"{number};" * chance.randint(1, 40) if method in ("PUT", "APPEND") else ""
            found.append(Request(method, chance.choice(("/a", "/b")), number, (), body))
        return found

    def history(self, origin):
        """Let the states of an origin be written down as (time, (version, text) or None) by path; return the table."""
        found = {path: [(0, None)] for path in ("/a", "/b")}
        carry = origin.carry

        def carrying(sender, request):
            answer = carry(sender, request)
            state = origin.resources.get(request.path)
            if found[request.path][-1][1] != state:
                found[request.path].append((self.net.time, state))
            return answer

        origin.carry = carrying
        return found

    def was_so(self, rows, event, begin):
        """Return True if what was read was so between a time and the answer's."""
        request, _, answer, end = event
        for (time, state), (until, _) in zip(rows, rows[1:] + [(end, None)]):
            if time > end or until < begin:
                continue
            if state is None and answer.code == 404:
                return True
            if state is not None and answer.code == 200 and answer.heads["version"] == str(state[0]):
                return answer.body == (state[1] if request.method == "GET" else "")
        return False

    def go_badly(self, seed):
        chance = random.Random(seed)
        self.build_bad(chance)
        origin = self.serve(self.hosts[0], chance.choice((0, 5, 30, 100)))
        states = self.history(origin)
        self.hosts[1].runs.append(CacheRun(self.hosts[1], 1, 2, chance.choice((1, 2, 20))))
        clients = [self.client(host, chance.choice((1, 2)), *self.requests(chance, 100 * host.address), seed=host.address)
                   for host in self.hosts[2:]]
        requests = [list(client.left) for client in clients]
        for _ in range(3000):
            self.net.act(chance.randrange(10 ** 12))
        self.net.settle(lambda: all(client.is_done() for client in clients))
        for client, asked in zip(clients, requests):
            self.assertEqual([event[0] for event in client.events], asked)
            for event in client.events:
                request, begin, answer, end = event
                self.assertEqual(answer.number, request.number)
                if request.changes():
                    many = origin.done.count((client.name, request.number))
                    self.assertTrue(many == 1 if answer.code < 300 else many == 0 or answer.code == 504)
                elif answer.code != 504:
                    self.assertTrue(self.was_so(states[request.path], event, begin - (origin.fresh if client.target == 2 else 0)))
        self.assertEqual(len(origin.done), len(set(origin.done)))
        return [code for client in clients for code in codes(client)]

    def test_requests_over_bad_links(self):
        found = []
        for seed in range(40):
            found.extend(self.go_badly(seed))
        self.assertGreater(len([code for code in found if code != 504]), len(found) // 3)
        self.assertIn(504, found)

    def test_a_guard_in_between(self):
        one, two, three = self.build(3)
        origin = self.serve(three)
        guard = Guard(compiled(parse_rules("drop from 1 to 3 most 4; accept")))
        two.guard_by(guard)
        client = self.client(one, 3, Request("PUT", "/a", 1, (), "x"))
        self.net.settle(client.is_done)
        self.assertEqual((codes(client), origin.done, guard.dropped, guard.cells[0]), ([201], [("a", 1)], 4, 4))
        self.assertGreater(guard.accepted, 5)


if __name__ == "__main__":
    unittest.main()
