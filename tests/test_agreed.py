import random
import unittest

from wirestack.agreed import Asking, Clock, agreed, is_outvoted, narrowest
from wirestack.errors import HostError


class AskingTest(unittest.TestCase):
    def test_spans_reckoned_by_hand(self):
        for (sent, shown, came), span, best, doubt in (((10, 30, 14), (16, 20), 18, 2), ((10, 30, 15), (15, 20), 17, 3),
                                                       ((10, 3, 13), (-10, -7), -9, 2), ((5, 5, 5), (0, 0), 0, 0),
                                                       ((5, 5, 6), (-1, 0), -1, 1)):
            asking = Asking(sent, shown, came)
            self.assertEqual((asking.span(), asking.best(), asking.doubt()), (span, best, doubt))
            self.assertEqual(asking.seen_time, shown)

    def test_an_answer_before_the_question_is_refused(self):
        with self.assertRaises(HostError):
            Asking(10, 30, 9)

    def test_the_truth_is_in_the_span(self):
        chance = random.Random(1)
        for _ in range(200):
            ahead, sent = chance.randrange(-50, 50), chance.randrange(100)
            at = sent + chance.randrange(10)
            asking = Asking(sent, at + ahead, at + chance.randrange(10))
            self.assertLessEqual(abs(ahead - asking.best()), asking.doubt())
            self.assertTrue(asking.span()[0] <= ahead <= asking.span()[1])

    def test_the_narrowest_span_of_one_clock(self):
        rows = [Asking(0, 20, 10), Asking(5, 22, 9), Asking(20, 35, 24)]
        self.assertEqual([row.span() for row in rows], [(10, 20), (13, 17), (11, 15)])
        self.assertEqual(narrowest(rows), (13, 15))
        self.assertEqual(narrowest(rows[:1]), (10, 20))
        self.assertEqual(narrowest([Asking(0, 20, 10), Asking(0, 30, 10)]), (20, 20))

    def test_spans_that_do_not_meet_and_none_at_all(self):
        for rows in ([], [Asking(0, 20, 10), Asking(0, 31, 10)]):
            with self.assertRaises(HostError):
                narrowest(rows)


class AgreedTest(unittest.TestCase):
    def test_spans_of_which_most_agree(self):
        self.assertEqual(agreed([(0, 5), (3, 9), (4, 6), (20, 30)]), (4, 5, 3))
        self.assertEqual(agreed([(3, 9)]), (3, 9, 1))
        self.assertEqual(agreed(((0, 5), (5, 9))), (5, 5, 2))
        self.assertEqual(agreed([(0, 9), (0, 9), (2, 3), (2, 3)]), (2, 3, 4))

    def test_the_first_of_equal_groups(self):
        self.assertEqual(agreed([(10, 12), (0, 2), (11, 13), (1, 3)]), (1, 2, 2))
        self.assertEqual(agreed([(5, 6), (1, 2)]), (1, 2, 1))
        self.assertEqual(agreed([(0, 2), (0, 9), (4, 9)]), (0, 2, 2))

    def test_1_to_30_spans(self):
        self.assertEqual(agreed([(0, one) for one in range(30)]), (0, 0, 30))
        for rows in ([], [(0, 1)] * 31, [(0, 1), (3, 2)], [(1, 0)]):
            with self.assertRaises(HostError):
                agreed(rows)
            with self.assertRaises(HostError):
                is_outvoted((0, 1), rows)

    def test_outvoted_spans(self):
        spans = [(0, 5), (3, 9), (4, 6)]
        for span, found in (((6, 9), True), ((5, 9), False), ((0, 3), True), ((0, 4), False), ((4, 4), False), ((0, 99), False)):
            self.assertIs(is_outvoted(span, spans), found)

    def test_drawn_spans(self):
        chance = random.Random(7)
        for _ in range(300):
            rows = []
            for _ in range(chance.randrange(1, 12)):
                low = chance.randrange(20)
                rows.append((low, low + chance.randrange(8)))
            low, high, many = agreed(rows)
            counts = [sum(one <= point <= other for one, other in rows) for point in range(30)]
            self.assertEqual((many, low), (max(counts), counts.index(max(counts))))
            held = [row for row in rows if row[0] <= low <= row[1]]
            self.assertEqual(high, min(other for _, other in held))


class ClockTest(unittest.TestCase):
    def shown(self, clock, many):
        found = []
        for _ in range(many):
            clock.tick()
            found.append(clock.seen_time)
        return found

    def test_a_clock_that_is_right(self):
        clock = Clock()
        self.assertEqual((clock.seen_time, clock.owed), (0, 0))
        clock.follow((-3, 2))
        self.assertEqual((self.shown(clock, 3), clock.owed), ([1, 2, 3], 0))

    def test_a_clock_that_is_behind_shows_two_for_each_tick(self):
        clock = Clock(10)
        clock.follow((3, 9))
        self.assertEqual((clock.seen_time, clock.owed), (10, 3))
        self.assertEqual((self.shown(clock, 5), clock.owed), ([12, 14, 16, 17, 18], 0))

    def test_a_clock_that_is_ahead_shows_none(self):
        clock = Clock(10)
        clock.follow((-9, -2))
        self.assertEqual((self.shown(clock, 4), clock.owed), ([10, 10, 11, 12], 0))

    def test_the_nearest_point_of_a_span_is_owed(self):
        for span, owed in (((3, 9), 3), ((-9, -3), -3), ((-1, 1), 0), ((0, 5), 0), ((-5, 0), 0), ((4, 4), 4)):
            clock = Clock(10)
            clock.follow((7, 7))
            clock.follow(span)
            self.assertEqual(clock.owed, owed)

    def test_a_clock_never_goes_back(self):
        chance = random.Random(3)
        for _ in range(50):
            clock, true = Clock(100), 100 + chance.randrange(-20, 20)
            last = clock.seen_time
            for step in range(200):
                if step % 30 == 0 and step < 150:
                    doubt = chance.randrange(4)
                    clock.follow((true - clock.seen_time - doubt, true - clock.seen_time + doubt))
                clock.tick()
                true += 1
                self.assertTrue(0 <= clock.seen_time - last <= 2)
                last = clock.seen_time
            self.assertLessEqual(abs(clock.seen_time - true), 3)


if __name__ == "__main__":
    unittest.main()
