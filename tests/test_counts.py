import random
import unittest

from wirestack.counts import (counts_of, joined_counts, knows, merged, read_siblings, relation, seen_by, siblings_bytes,
                              whole_siblings)
from wirestack.errors import StoreError
from wirestack.octets import Reader, natural_bytes


def drawn_counts(chance):
    return tuple([(address, chance.randint(1, 3)) for address in range(1, 5) if chance.random() < 0.5])


def drawn_rows(chance):
    return [(drawn_counts(chance), chance.choice((None, "", "a", "b"))) for _ in range(chance.randrange(6))]


class CountsTest(unittest.TestCase):
    def test_counts_of(self):
        self.assertEqual(counts_of(()), ())
        self.assertEqual(counts_of([(3, 1), (1, 7)]), ((1, 7), (3, 1)))
        for rows in ([(1, 1), (1, 2)], [(1, 1), (1, 1)], [(1, 0)], [(1, -1)], [(0, 1)], [(-1, 1)], [(2, 1), (1, 0)]):
            with self.assertRaises(StoreError):
                counts_of(rows)

    def test_joined(self):
        self.assertEqual(joined_counts((), ()), ())
        self.assertEqual(joined_counts(((1, 2), (3, 4)), ()), ((1, 2), (3, 4)))
        self.assertEqual(joined_counts(((1, 2), (3, 4)), ((2, 9), (3, 5))), ((1, 2), (2, 9), (3, 5)))
        self.assertEqual(joined_counts(((3, 5),), ((1, 2), (3, 4))), ((1, 2), (3, 5)))

    def test_knows(self):
        self.assertTrue(knows((), ()))
        self.assertTrue(knows(((1, 1),), ()))
        self.assertFalse(knows((), ((1, 1),)))
        self.assertTrue(knows(((1, 2), (2, 2)), ((2, 2),)))
        self.assertTrue(knows(((1, 2), (2, 2)), ((1, 1), (2, 2))))
        self.assertFalse(knows(((1, 2), (2, 2)), ((2, 3),)))
        self.assertFalse(knows(((1, 2), (2, 2)), ((3, 1),)))

    def test_the_four_relations(self):
        one = ((1, 2), (2, 2))
        self.assertEqual(relation(one, one), "same")
        self.assertEqual(relation((), ()), "same")
        self.assertEqual(relation(one, ((1, 2),)), "newer")
        self.assertEqual(relation(one, ((1, 2), (2, 1))), "newer")
        self.assertEqual(relation(((1, 2),), one), "older")
        self.assertEqual(relation((), one), "older")
        self.assertEqual(relation(one, ((3, 1),)), "apart")
        self.assertEqual(relation(one, ((1, 3),)), "apart")

    def test_laws(self):
        chance = random.Random(1)
        for _ in range(500):
            one, other = drawn_counts(chance), drawn_counts(chance)
            both = joined_counts(one, other)
            self.assertEqual(both, joined_counts(other, one))
            self.assertTrue(knows(both, one) and knows(both, other))
            word = {(True, True): "same", (True, False): "newer", (False, True): "older", (False, False): "apart"}
            self.assertEqual(relation(one, other), word[(knows(one, other), knows(other, one))])
            self.assertEqual(relation(one, other) == "same", one == other)
            self.assertEqual(knows(one, other), both == one)


class MergedTest(unittest.TestCase):
    def test_rows_that_another_one_knows_go(self):
        old, new, apart = ((1, 1),), ((1, 2), (2, 1)), ((3, 1),)
        self.assertEqual(merged(()), ())
        self.assertEqual(merged([(apart, "c"), (old, "a"), (new, "b")]), ((new, "b"), (apart, "c")))
        self.assertEqual(merged([(new, None), (old, "a")]), ((new, None),))
        self.assertEqual(merged([((), "x"), (old, "a")]), ((old, "a"),))

    def test_ascending_by_counts(self):
        rows = [(((2, 1),), "a"), (((1, 2),), "b"), (((1, 1), (3, 1)), "c")]
        self.assertEqual([counts for counts, _ in merged(rows)], sorted([counts for counts, _ in rows]))

    def test_of_equal_counts_the_least_text_stays(self):
        counts = ((1, 1),)
        self.assertEqual(merged([(counts, "b"), (counts, "a"), (counts, "c")]), ((counts, "a"),))
        self.assertEqual(merged([(counts, "b"), (counts, "")]), ((counts, ""),))
        for rows in ([(counts, ""), (counts, None)], [(counts, None), (counts, "")]):
            self.assertEqual(merged(rows), ((counts, None),))

    def test_in_any_order(self):
        chance = random.Random(2)
        for _ in range(500):
            rows = drawn_rows(chance)
            found = merged(rows)
            self.assertIsInstance(found, tuple)
            chance.shuffle(rows)
            self.assertEqual(merged(rows), found)
            self.assertEqual(merged(found), found)
            place = chance.randint(0, len(rows))
            self.assertEqual(merged(merged(rows[:place]) + merged(rows[place:])), found)
            for counts, text in rows:
                self.assertTrue(any(knows(other, counts) for other, _ in found))

    def test_seen_by(self):
        self.assertEqual(seen_by(()), ())
        self.assertEqual(seen_by(((((1, 2), (3, 1)), "a"), (((2, 5), (3, 4)), None))), ((1, 2), (2, 5), (3, 4)))


class BytesTest(unittest.TestCase):
    def test_there_and_back(self):
        chance = random.Random(3)
        for _ in range(300):
            rows = merged(drawn_rows(chance))
            data = siblings_bytes(rows)
            self.assertEqual(whole_siblings(data), rows)
            reader = Reader((9,) + data + (7, 7))
            reader.take(1)
            found = read_siblings(reader)
            self.assertEqual((found, reader.place), (rows, 1 + len(data)))
            self.assertIsInstance(found, tuple)

    def test_eight_siblings_with_long_texts(self):
        rows = merged([(((address, 1000),), "x" * 100) for address in range(1, 9)])
        self.assertEqual(len(rows), 8)
        self.assertEqual(whole_siblings(siblings_bytes(rows)), rows)

    def test_none_and_the_empty_text_are_two(self):
        one, other = ((((1, 1),), None),), ((((1, 1),), ""),)
        self.assertEqual((whole_siblings(siblings_bytes(one)), whole_siblings(siblings_bytes(other))), (one, other))

    def refused(self, data):
        with self.assertRaises(StoreError):
            whole_siblings(data)

    def test_bytes_that_are_none(self):
        data = siblings_bytes(((((1, 1), (2, 300)), "text"), (((3, 1),), None)))
        for place in range(len(data)):
            self.refused(data[:place])
        self.refused(data + (0,))
        self.refused(())
        self.refused((200,) * 20)

    def test_siblings_that_are_not_as_they_are_told(self):
        for rows in (((((1, 1),), "a"), (((1, 1),), "b")), ((((1, 2),), "a"), (((1, 1),), "b")),
                     ((((2, 1),), "a"), (((1, 1),), "b")), ((((1, 1),), "a"), (((1, 2),), "b")),
                     ((((1, 1), (1, 2)), "a"),), ((((1, 0),), "a"),), ((((0, 1),), "a"),), ((((2, 1), (1, 1)), "a"),)):
            self.refused(siblings_bytes(rows))

    def test_whether_there_is_a_text_is_told_in_one_way(self):
        one, other = siblings_bytes(((((1, 1),), None),)), siblings_bytes(((((1, 1),), "a"),))
        places = [place for place in range(len(one)) if one[place] != other[place]]
        self.assertEqual(places, [len(one) - 2, len(one) - 1])
        self.refused(other[:-3] + (0,) + other[-2:])
        self.refused(other[:-3] + (2,) + other[-2:])
        self.refused(one[:-2] + (2, 0))

    def test_too_many_siblings(self):
        rows = merged([(((address, 1),), "x") for address in range(1, 200)])
        self.refused(siblings_bytes(rows))
        self.refused(natural_bytes(10 ** 15))
        with self.assertRaises(StoreError):
            read_siblings(Reader(natural_bytes(10 ** 15)))


if __name__ == "__main__":
    unittest.main()
