import unittest

from wirestack.errors import SocketError
from wirestack.streams import DATA, OPEN, REFUSED, read_segment, segment_bytes
from wirestack.translate import Flow, Translator

OUTSIDE = 9
INSIDE = (2, 3)


def segment(opener, number, kind=DATA, data=(1, 2)):
    return segment_bytes((kind, opener, number, 5, 6, 7, 0, data))


class TranslatorCase(unittest.TestCase):
    def setUp(self):
        self.found = Translator(OUTSIDE, list(INSIDE))

    def out(self, source, target, opener, number, time=0, kind=DATA):
        """Return (source outside, opener, number) of a segment that goes out, None for none."""
        row = self.found.outgoing(source, target, segment(opener, number, kind), time)
        return None if row is None else (row[0],) + self.told(row[1], kind)

    def come(self, source, opener, number, time=0, kind=DATA):
        """Return (host inside, opener, number) of a segment that comes in, None for none."""
        row = self.found.incoming(source, segment(opener, number, kind), time)
        return None if row is None else (row[0],) + self.told(row[1], kind)

    def told(self, data, kind):
        found = read_segment(data)
        self.assertEqual((found[0],) + found[3:], (kind, 5, 6, 7, 0, (1, 2)))
        return found[1:3]

    def flows(self):
        return [(flow.opener, flow.number, flow.outer, flow.peer, flow.used) for flow in self.found.flows]


class FlowTest(TranslatorCase):
    def test_fields(self):
        flow = Flow(1, 2, 3, 4, 5)
        self.assertEqual((flow.opener, flow.number, flow.outer, flow.peer, flow.used), (1, 2, 3, 4, 5))
        self.assertEqual(self.found.flows, [])

    def test_numbers_outside_are_the_least_that_no_flow_to_the_target_has(self):
        self.assertEqual(self.out(2, 7, 2, 40, 1, OPEN), (9, 9, 1))
        self.assertEqual(self.out(3, 7, 3, 40, 2), (9, 9, 2))
        self.assertEqual(self.out(2, 8, 2, 40, 3), (9, 9, 1))
        self.assertEqual(self.out(2, 7, 2, 41, 4, REFUSED), (9, 9, 3))
        self.assertEqual(self.out(3, 7, 3, 40, 5), (9, 9, 2))
        self.assertEqual(self.flows(), [(2, 40, 1, 7, 1), (3, 40, 2, 7, 5), (2, 40, 1, 8, 3), (2, 41, 3, 7, 4)])

    def test_answers_come_to_the_host_and_the_number_that_it_began_with(self):
        self.out(2, 7, 2, 40)
        self.out(3, 7, 3, 40)
        self.out(3, 8, 3, 41)
        self.assertEqual(self.come(7, 9, 1, 4), (2, 2, 40))
        self.assertEqual(self.come(7, 9, 2, 5, REFUSED), (3, 3, 40))
        self.assertEqual(self.come(8, 9, 1, 6), (3, 3, 41))
        self.assertEqual([row[4] for row in self.flows()], [4, 5, 6])

    def test_segments_of_no_flow(self):
        self.out(2, 7, 2, 40)
        for source, opener, number in ((7, 9, 2), (8, 9, 1), (7, 2, 40), (7, 7, 1), (7, 8, 1), (2, 9, 1)):
            self.assertIsNone(self.come(source, opener, number, 5))
        self.assertEqual(self.flows(), [(2, 40, 1, 7, 0)])

    def test_50_flows_and_one_more(self):
        for number in range(1, 51):
            self.assertEqual(self.out(2, 7 if number % 2 else 8, 2, number), (9, 9, (number + 1) // 2))
        self.assertIsNone(self.out(2, 7, 2, 51))
        self.assertIsNone(self.out(3, 6, 3, 1))
        self.assertEqual(self.out(2, 7, 2, 1), (9, 9, 1))
        self.assertEqual(len(self.found.flows), 50)

    def test_flows_are_forgotten_at_200_ticks_without_use(self):
        self.out(2, 7, 2, 40, 10)
        self.out(2, 7, 2, 41, 20)
        self.found.forget(209)
        self.assertEqual(len(self.found.flows), 2)
        self.found.forget(210)
        self.assertEqual(self.flows(), [(2, 41, 2, 7, 20)])
        # The number is free again.
        self.assertEqual(self.out(3, 7, 3, 1, 211), (9, 9, 1))

    def test_each_use_counts(self):
        self.out(2, 7, 2, 40, 10)
        self.assertEqual(self.come(7, 9, 1, 209), (2, 2, 40))
        self.assertEqual(self.out(2, 7, 2, 40, 408), (9, 9, 1))
        self.assertEqual(self.come(7, 9, 1, 607), (2, 2, 40))
        self.assertIsNone(self.come(7, 9, 1, 807))
        self.assertEqual(self.found.flows, [])

    def test_what_goes_nowhere_lets_flows_be_forgotten_too(self):
        for call in (lambda: self.out(4, 7, 4, 1, 200), lambda: self.come(8, 9, 1, 200)):
            self.setUp()
            self.out(2, 7, 2, 40)
            self.assertIsNone(call())
            self.assertEqual(self.found.flows, [])

    def test_sources_and_targets_that_may_not_be(self):
        for source, target, opener in ((4, 7, 4), (9, 7, 9), (2, 3, 2), (2, 2, 2), (2, 7, 3), (2, 7, 7), (2, 7, 9)):
            self.assertIsNone(self.out(source, target, opener, 1))
        self.assertEqual(self.found.flows, [])

    def test_bytes_that_are_no_segment(self):
        self.out(2, 7, 2, 40)
        good = segment(2, 40)
        for data in ((), (1,), good[:-1], good + (0,), (9,) + good[1:]):
            with self.assertRaises(SocketError):
                self.found.outgoing(2, 7, data, 500)
            with self.assertRaises(SocketError):
                self.found.incoming(7, data, 500)
            with self.assertRaises(SocketError):
                self.found.outgoing(4, 7, data, 500)
        self.assertEqual(self.flows(), [(2, 40, 1, 7, 0)])


class DoorTest(TranslatorCase):
    def test_streams_that_are_let_in_keep_their_numbers_and_are_not_kept(self):
        self.found.open_door(7, 3)
        for kind in (OPEN, DATA):
            data = segment(7, 12, kind)
            self.assertEqual(self.found.incoming(7, data, 0), (3, data))
            self.assertEqual(self.found.outgoing(3, 7, data, 0), (9, data))
        self.assertEqual(self.found.flows, [])
        self.assertEqual(self.come(7, 7, 12, 10 ** 6), (3, 7, 12))
        self.assertEqual(self.out(3, 7, 7, 12, 10 ** 6), (9, 7, 12))

    def test_other_hosts_streams_are_not_let_in(self):
        self.found.open_door(7, 3)
        for source, opener in ((8, 8), (7, 8), (8, 7), (7, 3)):
            self.assertIsNone(self.come(source, opener, 12))
        for source, target, opener in ((2, 7, 7), (3, 8, 7), (3, 7, 8), (3, 8, 8), (4, 7, 7)):
            self.assertIsNone(self.out(source, target, opener, 12))

    def test_streams_of_both_kinds_with_one_peer(self):
        self.found.open_door(7, 3)
        self.assertEqual(self.out(3, 7, 3, 12), (9, 9, 1))
        self.assertEqual(self.come(7, 7, 1), (3, 7, 1))
        self.assertEqual(self.come(7, 9, 1), (3, 3, 12))

    def test_doors_that_cannot_be(self):
        for peer, inside in ((7, 4), (7, 9), (7, 7), (2, 3), (3, 3)):
            with self.assertRaises(SocketError):
                self.found.open_door(peer, inside)
        self.assertIsNone(self.come(7, 7, 1))

    def test_a_door_that_is_opened_twice_leads_to_the_last_host(self):
        self.found.open_door(7, 3)
        self.found.open_door(7, 2)
        self.assertEqual(self.come(7, 7, 12), (2, 7, 12))
        self.assertIsNone(self.out(3, 7, 7, 12))
        self.assertEqual(self.out(2, 7, 7, 12), (9, 7, 12))


if __name__ == "__main__":
    unittest.main()
