import random
import unittest

from wirestack.errors import SealError
from wirestack.messages import Answer, Request, answer_bytes, request_bytes
from wirestack.seals import Seal
from wirestack.sessions import Session
from wirestack.streams import Endpoint


class Net:
    """Two endpoints, 1 and 2, with segments on the way that may be lost, doubled and overtaken."""

    def __init__(self, seed=None, listening=True):
        self.ends = {1: Endpoint(1), 2: Endpoint(2)}
        if listening:
            self.ends[2].listen()
        self.chance = random.Random(seed) if seed is not None else None
        self.on_way = []

    def go(self):
        for source, end in self.ends.items():
            end.tick()
            self.on_way.extend((source, target, data) for target, data in end.take_outbox())
        rows, self.on_way = self.on_way, []
        if self.chance is not None:
            self.chance.shuffle(rows)
        for row in rows:
            source, target, data = row
            luck = self.chance.random() if self.chance is not None else 1
            if luck < 0.25:
                continue
            if luck < 0.5:
                self.on_way.append(row)
            if luck >= 0.4:
                self.ends[target].receive(source, data)


class SessionCase(unittest.TestCase):
    def sessions(self, net, secrets=(11, 22), ticks=300):
        stream = net.ends[1].connect(2)
        one = Session(net.ends[1], stream, secrets[0], True)
        for _ in range(ticks):
            net.go()
            other = net.ends[2].accept()
            if other is not None:
                return one, Session(net.ends[2], other, secrets[1], False)
        self.fail("no stream came")

    def go(self, net, ticks, *sides):
        """Let time pass; return the messages that came to each side."""
        found = [[] for _ in sides]
        for _ in range(ticks):
            net.go()
            for side, row in zip(sides, found):
                messages = side.tick()
                self.assertIsInstance(messages, tuple)
                row.extend(messages)
        return [[message.shown() for message in row] for row in found]


class FairTest(SessionCase):
    def test_a_request_and_its_answer(self):
        net = Net()
        one, other = self.sessions(net)
        self.assertIs(one.endpoint, net.ends[1])
        request, answer = Request("PUT", "/a", 1, {"from": "b"}, "text"), Answer(201, 1, {"version": "1"})
        one.send(request_bytes(request))
        self.assertEqual(self.go(net, 10, one, other), [[], [request.shown()]])
        other.send(answer_bytes(answer))
        self.assertEqual(self.go(net, 10, one, other), [[answer.shown()], []])
        self.assertEqual((one.fault, other.fault), (None, None))

    def test_messages_wait_until_the_seal_is_open(self):
        net = Net()
        stream = net.ends[1].connect(2)
        one = Session(net.ends[1], stream, 11, True)
        requests = [Request("GET", "/a", number) for number in range(3)]
        for request in requests:
            one.send(request_bytes(request))
        self.assertEqual(one.waiting, [request_bytes(request) for request in requests])
        net.go()
        other = Session(net.ends[2], net.ends[2].accept(), 22, False)
        answer = Answer(200, 0, {}, "early")
        other.send(answer_bytes(answer))
        self.assertEqual(other.waiting, [answer_bytes(answer)])
        self.assertEqual(self.go(net, 10, one, other), [[answer.shown()], [request.shown() for request in requests]])
        self.assertEqual((one.waiting, other.waiting), ([], []))

    def test_long_messages_go_in_records_of_at_most_300_bytes(self):
        net = Net()
        stream = net.ends[1].connect(2)
        one = Session(net.ends[1], stream, 11, True)
        data = request_bytes(Request("PUT", "/a", 1, {}, "long text " * 150))
        one.send(data)
        net.go()
        other, seal = net.ends[2].accept(), Seal(22, False)
        found, answered = (), False
        for _ in range(60):
            found += seal.feed(other.read())
            if seal.state == "open" and not answered:
                other.send(seal.hello())
                answered = True
            one.tick()
            net.go()
        self.assertEqual(sum(found, ()), data)
        self.assertEqual([len(piece) for piece in found[:-1]], [300] * (len(found) - 1))
        self.assertEqual(len(found), (len(data) + 299) // 300)

    def test_long_messages_go_whole(self):
        net = Net()
        one, other = self.sessions(net)
        rows = [Request("PUT", "/a", number, {}, "x" * (1500 - number)) for number in range(4)]
        for request in rows:
            one.send(request_bytes(request))
        self.assertEqual(self.go(net, 80, one, other), [[], [request.shown() for request in rows]])

    def test_secrets_out_of_bounds_are_refused(self):
        end = Endpoint(1)
        for secret in (0, 2147483646):
            with self.assertRaises(SealError):
                Session(end, end.connect(2), secret, True)


class UnfairTest(SessionCase):
    def test_segments_come_late_lost_and_doubled(self):
        for seed in range(25):
            net = Net(seed)
            one, other = self.sessions(net, (seed + 1, 2 * seed + 5))
            rows = [Request("PUT", "/a", number, {}, "text " * number) for number in range(0, 120, 20)]
            for request in rows:
                one.send(request_bytes(request))
            one.end()
            found = {one: [], other: []}
            for _ in range(1500):
                net.go()
                for message in other.tick():
                    found[other].append(message.shown())
                    other.send(answer_bytes(Answer(200, message.number, {}, message.body)))
                    if len(found[other]) == len(rows):
                        other.end()
                found[one].extend(message.shown() for message in one.tick())
                if one.stream.state == other.stream.state == "closed":
                    break
            self.assertEqual(found[other], [request.shown() for request in rows])
            self.assertEqual(found[one], [(200, request.number, (), request.body) for request in rows])
            self.assertEqual((one.fault, other.fault), (None, None))
            self.assertEqual((one.seal.state, other.seal.state), ("over", "over"))


class EndTest(SessionCase):
    def test_either_side_may_end_first(self):
        for first in (0, 1):
            net = Net()
            sides = self.sessions(net)
            self.go(net, 10, *sides)
            sides[first].end()
            self.go(net, 10, *sides)
            self.assertTrue(sides[1 - first].stream.is_over())
            self.assertEqual(sides[1 - first].seal.state, "over")
            request, answer = Request("GET", "/a", 1), Answer(200, 1)
            late = answer if first == 0 else request
            sides[1 - first].send(answer_bytes(late) if first == 0 else request_bytes(late))
            sides[1 - first].end()
            self.assertEqual(self.go(net, 10, *sides)[first], [late.shown()])
            for side in sides:
                self.assertEqual((side.fault, side.stream.state), (None, "closed"))

    def test_an_end_goes_behind_all_that_waits(self):
        net = Net()
        stream = net.ends[1].connect(2)
        one = Session(net.ends[1], stream, 11, True)
        request = Request("PUT", "/a", 1, {}, "x" * 1000)
        one.send(request_bytes(request))
        one.end()
        self.assertFalse(stream.closing)
        net.go()
        other = Session(net.ends[2], net.ends[2].accept(), 22, False)
        self.assertEqual(self.go(net, 30, one, other)[1], [request.shown()])
        self.assertTrue(stream.is_done() and other.stream.is_over())
        self.assertEqual((other.seal.state, other.fault), ("over", None))

    def test_a_side_that_has_ended_sends_no_more(self):
        net = Net()
        one, other = self.sessions(net)
        one.end()
        with self.assertRaises(SealError):
            one.send((1, 2))
        self.go(net, 10, one, other)
        one.end()
        with self.assertRaises(SealError):
            one.send((1, 2))
        self.assertEqual((one.fault, other.fault, other.seal.state), (None, None, "over"))

    def test_a_stream_that_was_cut_off_gives_a_fault(self):
        net = Net()
        one, other = self.sessions(net)
        self.go(net, 10, one, other)
        request = Request("GET", "/a", 1)
        one.send(request_bytes(request))
        one.stream.close()
        self.assertEqual(self.go(net, 10, one, other)[1], [request.shown()])
        self.assertIsInstance(other.fault, str)


class FaultTest(SessionCase):
    def test_a_refused_stream_gives_its_fault(self):
        net = Net(listening=False)
        one = Session(net.ends[1], net.ends[1].connect(2), 11, True)
        self.assertIsNone(one.fault)
        self.go(net, 5, one)
        self.assertEqual(one.fault, "refused")

    def test_a_stream_that_timed_out_gives_its_fault(self):
        net = Net()
        one, other = self.sessions(net)
        self.go(net, 10, one, other)
        one.send((1, 2, 3))
        for _ in range(500):
            net.ends[1].tick()
            one.tick()
        self.assertEqual((one.fault, other.fault), ("timed out", None))
        self.assertEqual(one.tick(), ())

    def test_what_came_before_a_stream_failed_is_returned(self):
        net = Net()
        one, other = self.sessions(net)
        self.go(net, 10, one, other)
        answer = Answer(200, 1)
        other.send(answer_bytes(answer))
        for _ in range(3):
            net.go()
        one.send((1, 2, 3))
        for _ in range(500):
            net.ends[1].tick()
        self.assertEqual([message.shown() for message in one.tick()], [answer.shown()])
        self.assertEqual((one.fault, one.tick()), ("timed out", ()))

    def test_sending_on_a_stream_that_failed_leaves_its_fault_to_be_told(self):
        net = Net()
        one, other = self.sessions(net)
        self.go(net, 10, one, other)
        answer = Answer(200, 1)
        other.send(answer_bytes(answer))
        for _ in range(3):
            net.go()
        one.send((1, 2, 3))
        for _ in range(500):
            net.ends[1].tick()
        one.send((1, 2, 3))
        self.assertEqual([message.shown() for message in one.tick()], [answer.shown()])
        self.assertEqual(one.fault, "timed out")

    def test_a_stream_that_takes_no_more_bytes_gives_a_fault(self):
        net = Net()
        one, other = self.sessions(net)
        self.go(net, 10, one, other)
        one.stream.close()
        one.send((1, 2, 3))
        self.assertIsInstance(one.fault, str)

    def test_the_fault_is_there_with_the_messages_before_the_damage(self):
        for noise in ((0,), Seal(11, True).hello()):
            net = Net()
            one, other = self.sessions(net)
            self.go(net, 10, one, other)
            one.send(request_bytes(Request("GET", "/a", 1)))
            one.stream.send(noise)
            net.go()
            self.assertEqual((len(other.tick()), type(other.fault)), (1, str))
        net = Net()
        one, other = self.sessions(net)
        self.go(net, 10, one, other)
        one.send(request_bytes(Request("GET", "/a", 1)) + (200,))
        net.go()
        self.assertEqual((len(other.tick()), type(other.fault)), (1, str))

    def test_a_seal_that_breaks_gives_a_fault(self):
        for noise in ((0,), (5, 1, 2, 3, 4, 5), (255, 255)):
            net = Net()
            one, other = self.sessions(net)
            self.go(net, 10, one, other)
            request = Request("GET", "/a", 1)
            one.send(request_bytes(request))
            one.stream.send(noise)
            self.assertEqual(self.go(net, 10, one, other)[1], [request.shown()])
            self.assertIsInstance(other.fault, str)
            one.send(request_bytes(request))
            self.assertEqual(self.go(net, 10, other), [[]])
            self.assertEqual(other.tick(), ())

    def test_the_other_side_of_a_broken_seal_sees_its_stream_cut_off(self):
        net = Net()
        one, other = self.sessions(net)
        self.go(net, 10, one, other)
        one.stream.send((0,))
        self.go(net, 10, one, other)
        self.assertIsInstance(one.fault, str)

    def test_a_hello_that_is_none_gives_a_fault(self):
        net = Net()
        stream = net.ends[1].connect(2)
        stream.send((5, 3, 0, 0, 0, 0))
        net.go()
        other = Session(net.ends[2], net.ends[2].accept(), 22, False)
        self.go(net, 3, other)
        self.assertIsInstance(other.fault, str)

    def test_bytes_that_form_no_message_give_a_fault(self):
        net = Net()
        one, other = self.sessions(net)
        request = Request("GET", "/a", 1)
        one.send(request_bytes(request))
        one.send((200, 200))
        self.assertEqual(self.go(net, 10, one, other)[1], [request.shown()])
        self.assertIsInstance(other.fault, str)

    def test_bytes_that_form_no_message_alone_give_a_fault(self):
        net = Net()
        one, other = self.sessions(net)
        one.send((200, 200))
        self.assertEqual(self.go(net, 10, one, other)[1], [])
        self.assertIsInstance(other.fault, str)
        self.assertEqual(other.tick(), ())

    def test_take_feeds_bytes_and_returns_messages(self):
        net = Net()
        one, other = self.sessions(net)
        self.go(net, 10, one, other)
        self.assertEqual((one.take(()), one.fault), ((), None))
        self.assertEqual(one.take((0,)), ())
        self.assertIsInstance(one.fault, str)

    def test_put_sends_bytes_on_the_stream(self):
        net = Net()
        stream = net.ends[1].connect(2)
        one = Session(net.ends[1], stream, 11, True)
        one.put((7, 8))
        net.go()
        self.assertEqual(net.ends[2].accept().read(), Seal(11, True).hello() + (7, 8))

    def test_an_accepting_side_is_silent_until_the_hello_came(self):
        net = Net()
        stream = net.ends[1].connect(2)
        net.go()
        other = Session(net.ends[2], net.ends[2].accept(), 22, False)
        self.go(net, 5, other)
        self.assertEqual(stream.read(), ())
        stream.send(Seal(11, True).hello())
        self.go(net, 5, other)
        self.assertEqual(stream.read(), Seal(22, False).hello())


if __name__ == "__main__":
    unittest.main()
