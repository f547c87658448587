import random
import unittest

from wirestack.errors import RouteError
from wirestack.queues import Bucket, FairQueue


class BucketTest(unittest.TestCase):
    def test_a_bucket_begins_full(self):
        found = Bucket(3, 10)
        self.assertEqual((found.saved, found.time), (10, 0))
        self.assertIs(found.take(10, 0), True)
        self.assertIs(found.take(1, 0), False)
        self.assertEqual(found.saved, 0)

    def test_rates_and_rooms_below_1_are_refused(self):
        for rate, most in ((0, 5), (5, 0), (-1, 5), (5, -1)):
            with self.assertRaises(RouteError):
                Bucket(rate, most)
        self.assertEqual(Bucket(1, 1).saved, 1)

    def test_time_brings_bytes_up_to_the_most(self):
        found = Bucket(3, 10)
        found.take(10, 4)
        self.assertEqual([found.look(time) for time in (4, 5, 7, 8, 100)], [0, 3, 9, 10, 10])
        self.assertEqual(found.time, 100)

    def test_bytes_are_taken_only_if_they_are_saved(self):
        found = Bucket(2, 10)
        self.assertTrue(found.take(7, 0))
        self.assertIs(found.take(4, 0), False)
        self.assertEqual((found.saved, found.time), (3, 0))
        self.assertIs(found.take(8, 2), False)
        self.assertEqual((found.saved, found.time), (7, 2))
        self.assertIs(found.take(7, 2), True)
        self.assertIs(found.take(0, 2), True)
        self.assertIs(found.take(11, 1000), False)

    def test_an_earlier_time_is_refused(self):
        found = Bucket(2, 10)
        found.take(5, 6)
        for call in (lambda: found.look(5), lambda: found.take(1, 5), lambda: found.take(0, 0)):
            with self.assertRaises(RouteError):
                call()
        self.assertEqual((found.saved, found.time), (5, 6))

    def test_when_bytes_are_ready(self):
        found = Bucket(3, 10)
        found.take(10, 7)
        self.assertEqual([found.ready_at(size) for size in (0, 1, 3, 4, 6, 7, 10)], [7, 8, 8, 9, 9, 10, 11])
        with self.assertRaises(RouteError):
            found.ready_at(11)
        found.look(8)
        self.assertEqual([found.ready_at(size) for size in (3, 4)], [8, 9])

    def test_what_is_ready_can_be_taken_then_and_not_before(self):
        chance = random.Random(4)
        for _ in range(100):
            rate, most = chance.randrange(1, 9), chance.randrange(1, 30)
            first, size = chance.randrange(most + 1), chance.randrange(most + 1)
            found = Bucket(rate, most)
            found.take(first, 3)
            time = found.ready_at(size)
            if time > 3:
                self.assertFalse(found.take(size, time - 1))
            self.assertTrue(found.take(size, time))


class FairQueueTest(unittest.TestCase):
    def taken(self, queue):
        found = []
        row = queue.take()
        while row is not None:
            found.append(row)
            row = queue.take()
        return found

    def test_nothing_waits(self):
        queue = FairQueue()
        self.assertEqual((queue.take(), queue.count_waiting(), queue.rows, queue.order, queue.credit), (None, 0, {}, [], {}))

    def test_things_of_a_flow_go_in_order(self):
        queue = FairQueue()
        for number in range(5):
            self.assertIs(queue.put("a", 30 * number + 1, number), True)
        self.assertEqual(queue.count_waiting(), 5)
        self.assertEqual(self.taken(queue), [("a", number) for number in range(5)])
        self.assertEqual((queue.rows, queue.order, queue.credit), ({}, [], {}))

    def test_sizes_below_1_are_refused(self):
        queue = FairQueue()
        for size in (0, -1):
            with self.assertRaises(RouteError):
                queue.put("a", size, "x")
        self.assertEqual((queue.rows, queue.order, queue.credit), ({}, [], {}))

    def test_20_things_of_a_flow_wait_and_one_more_does_not(self):
        queue = FairQueue()
        self.assertEqual([queue.put("a", 1, number) for number in range(21)], [True] * 20 + [False])
        self.assertEqual([queue.put("b", 1, number) for number in range(20)], [True] * 20)
        self.assertEqual(queue.count_waiting(), 40)
        queue.take()
        self.assertIs(queue.put("a", 1, 21), True)

    def test_a_flow_begins_without_credit_and_gets_50_for_a_turn(self):
        queue = FairQueue()
        queue.put("a", 50, 1)
        queue.put("a", 1, 2)
        queue.put("b", 51, 3)
        self.assertEqual((queue.credit, queue.order), ({"a": 0, "b": 0}, ["a", "b"]))
        self.assertEqual(queue.take(), ("a", 1))
        # Both got 50 in their first turns, which is enough for a alone.
        self.assertEqual((queue.credit, queue.order), ({"a": 0, "b": 50}, ["a", "b"]))
        self.assertEqual(queue.take(), ("a", 2))
        self.assertEqual((queue.credit, queue.order), ({"b": 100}, ["b"]))
        self.assertEqual(queue.take(), ("b", 3))

    def test_a_flow_sends_as_long_as_its_credit_lasts(self):
        queue = FairQueue()
        for number in range(6):
            queue.put("a", 20, number)
            queue.put("b", 60, number)
        order = "".join([flow for flow, _ in self.taken(queue)])
        self.assertEqual(order, "aaaaababbbbb")

    def test_a_forgotten_flow_comes_again_without_credit(self):
        queue = FairQueue()
        queue.put("a", 10, 1)
        self.assertEqual(queue.take(), ("a", 1))
        self.assertEqual((queue.rows, queue.order, queue.credit), ({}, [], {}))
        queue.put("b", 10, 2)
        queue.put("a", 10, 3)
        self.assertEqual(queue.credit, {"b": 0, "a": 0})
        self.assertEqual(self.taken(queue), [("b", 2), ("a", 3)])

    def test_large_things_wait_for_several_turns(self):
        queue = FairQueue()
        queue.put("a", 1000, 1)
        queue.put("b", 300, 2)
        queue.put("c", 20, 3)
        self.assertEqual(self.taken(queue), [("c", 3), ("b", 2), ("a", 1)])

    def test_long_rows_of_puts_and_takes(self):
        chance = random.Random(8)
        queue = FairQueue()
        rows, order, credit = {}, [], {}
        for step in range(4000):
            if chance.random() < 0.55:
                flow, size = chance.choice("abcde"), chance.choice((1, 20, 49, 50, 51, 99, 170))
                fits = len(rows.get(flow, [])) < 20
                self.assertEqual(queue.put(flow, size, step), fits)
                if fits:
                    if flow not in rows:
                        rows[flow], credit[flow] = [], 0
                        order.append(flow)
                    rows[flow].append((size, step))
            elif not order:
                self.assertIsNone(queue.take())
            else:
                while credit[order[0]] < rows[order[0]][0][0]:
                    credit[order[0]] += 50
                    order = order[1:] + order[:1]
                flow = order[0]
                size, thing = rows[flow].pop(0)
                credit[flow] -= size
                if not rows[flow]:
                    order = order[1:]
                    del rows[flow], credit[flow]
                self.assertEqual(queue.take(), (flow, thing))
            self.assertEqual((queue.order, queue.credit), (order, credit))
            self.assertEqual(queue.count_waiting(), sum(len(row) for row in rows.values()))


if __name__ == "__main__":
    unittest.main()
