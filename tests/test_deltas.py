import random
import unittest

from wirestack.deltas import (Sums, delta, delta_bytes, patched, read_delta, rolled, rolling, strong, sums_of, with_bytes,
                              with_copy)
from wirestack.errors import OctetError
from wirestack.octets import sum_bytes

OLD = tuple(range(10, 40))


class SumsTest(unittest.TestCase):
    def test_rolling_sums_reckoned_by_hand(self):
        self.assertEqual(rolling(()), (0, 0))
        self.assertEqual(rolling((5,)), (5, 5))
        self.assertEqual(rolling((1, 2, 3)), (6, 3 * 1 + 2 * 2 + 3))
        self.assertEqual(rolling((255,) * 400), (255 * 400 % 65521, 255 * 400 * 401 // 2 % 65521))

    def test_sums_that_roll_as_they_are_reckoned_anew(self):
        chance = random.Random(2)
        for size in (1, 2, 9, 300):
            data = tuple(chance.choice((0, 255, chance.randrange(256))) for _ in range(700))
            pair = rolling(data[:size])
            for place in range(len(data) - size):
                pair = rolled(pair, size, data[place], data[place + size])
                self.assertEqual(pair, rolling(data[place + 1:place + 1 + size]))

    def test_strong_numbers_reckoned_by_hand(self):
        self.assertEqual(strong(()), 1)
        self.assertEqual(strong((4,)), 16777619 + 5)
        self.assertEqual(strong((4, 7)), ((16777619 + 5) * 16777619 + 8) % (2 ** 61 - 1))
        self.assertEqual(strong((4, 7, 9)), (((16777619 + 5) * 16777619 + 8) * 16777619 + 10) % (2 ** 61 - 1))
        self.assertNotEqual(strong((1, 2)), strong((2, 1)))

    def test_sums_of_whole_blocks(self):
        found = sums_of(OLD[:11], 4)
        rows = tuple((rolling(block), strong(block)) for block in (OLD[:4], OLD[4:8]))
        self.assertEqual(found.shown(), (4, 11, rows))
        self.assertEqual(found.rows, rows)
        self.assertEqual(sums_of((), 4).shown(), (4, 0, ()))
        self.assertEqual(sums_of((1, 2), 4).shown(), (4, 2, ()))
        self.assertEqual(len(sums_of(OLD, 1).rows), 30)
        self.assertEqual(Sums(3, 4, ()).shown(), (3, 4, ()))

    def test_sizes_below_1_are_refused(self):
        for size in (0, -1):
            with self.assertRaises(OctetError):
                sums_of(OLD, size)


class DeltaTest(unittest.TestCase):
    def made(self, old, new, size):
        rows = delta(sums_of(old, size), new)
        self.assertIsInstance(rows, tuple)
        self.assertEqual(patched(old, size, rows), new)
        return rows

    def test_the_same_row(self):
        self.assertEqual(self.made(OLD, OLD, 5), (("copy", 0, 6),))
        self.assertEqual(self.made(OLD, OLD, 9), (("copy", 0, 3), ("bytes", OLD[27:])))
        self.assertEqual(self.made(OLD, OLD, 1), (("copy", 0, 30),))

    def test_empty_rows_and_rows_shorter_than_a_block(self):
        self.assertEqual(self.made(OLD, (), 5), ())
        self.assertEqual(self.made((), OLD, 5), (("bytes", OLD),))
        self.assertEqual(self.made((), (), 5), ())
        self.assertEqual(self.made(OLD[:4], OLD[:4], 5), (("bytes", OLD[:4]),))
        self.assertEqual(self.made(OLD, OLD[:4], 5), (("bytes", OLD[:4]),))

    def test_blocks_turned_repeated_cut_and_with_bytes_between(self):
        one, two, three = OLD[:5], OLD[5:10], OLD[10:15]
        self.assertEqual(self.made(OLD, three + two + one, 5), (("copy", 2, 1), ("copy", 1, 1), ("copy", 0, 1)))
        self.assertEqual(self.made(OLD, one + one + two, 5), (("copy", 0, 1), ("copy", 0, 2)))
        self.assertEqual(self.made(OLD, (1, 2) + one + (3,) + two + three + (4,), 5),
                         (("bytes", (1, 2)), ("copy", 0, 1), ("bytes", (3,)), ("copy", 1, 2), ("bytes", (4,))))
        self.assertEqual(self.made(OLD, OLD[2:22], 5), (("bytes", OLD[2:5]), ("copy", 1, 3), ("bytes", OLD[20:22])))
        self.assertEqual(self.made(OLD, one[:4] + two, 5), (("bytes", one[:4]), ("copy", 1, 1)))

    def test_the_first_block_of_equals(self):
        old = (1, 2, 9, 9, 1, 2, 1, 2)
        self.assertEqual(self.made(old, (1, 2, 1, 2), 2), (("copy", 0, 1), ("copy", 0, 1)))
        self.assertEqual(self.made(old, old, 2), (("copy", 0, 2), ("copy", 0, 1), ("copy", 0, 1)))

    def test_blocks_of_the_same_rolling_sums_are_told_apart(self):
        old, other = (1, 4, 1, 0), (2, 2, 2, 0)
        self.assertEqual(rolling(old), rolling(other))
        self.assertEqual(self.made(old, other, 4), (("bytes", other),))
        self.assertEqual(self.made(old + other, other, 4), (("copy", 1, 1),))

    def test_it_is_looked_for_from_the_beginning(self):
        self.assertEqual(self.made((1, 1, 1, 2), (1, 1, 1, 1, 2), 2), (("copy", 0, 1), ("copy", 0, 1), ("bytes", (2,))))

    def test_drawn_rows_come_back(self):
        chance = random.Random(5)
        for _ in range(400):
            old = tuple(chance.choice((0, 1, 2, 255)) for _ in range(chance.randrange(60)))
            new = ()
            while len(new) < 50 and chance.random() < 0.9:
                begin = chance.randrange(len(old) + 1)
                new = new + (old[begin:begin + chance.randrange(20)] if chance.random() < 0.7 else (chance.randrange(256),))
            size = chance.randrange(1, 10)
            rows = self.made(old, new, size)
            self.assertEqual(read_delta(delta_bytes(rows)), rows)
            for one, other in zip(rows, rows[1:]):
                self.assertFalse(one[0] == other[0] == "bytes")
                self.assertFalse(one[0] == other[0] == "copy" and one[1] + one[2] == other[1])

    def test_rows_with_more_behind_them(self):
        rows = [("copy", 1, 2)]
        self.assertEqual(with_bytes(rows, ()), rows)
        self.assertEqual(with_bytes(rows, (7,)), [("copy", 1, 2), ("bytes", (7,))])
        self.assertEqual(with_copy(rows, 3), [("copy", 1, 3)])
        for number in (0, 1, 2, 4):
            self.assertEqual(with_copy(rows, number), [("copy", 1, 2), ("copy", number, 1)])
        self.assertEqual(with_copy([("bytes", (7,))], 3), [("bytes", (7,)), ("copy", 3, 1)])
        self.assertEqual((with_copy([], 0), with_bytes([], ()), rows), ([("copy", 0, 1)], [], [("copy", 1, 2)]))


class PatchTest(unittest.TestCase):
    def test_blocks_that_are_not_there(self):
        self.assertEqual(patched(OLD, 5, (("copy", 4, 2), ("copy", 0, 1))), OLD[20:] + OLD[:5])
        for row in (("copy", 6, 1), ("copy", 5, 2), ("copy", 0, 7), ("copy", 0, 0), ("copy", -1, 2), ("copy", 0, -1)):
            with self.assertRaises(OctetError):
                patched(OLD, 5, (("bytes", (1,)), row))
        with self.assertRaises(OctetError):
            patched(OLD[:29], 5, (("copy", 5, 1),))


class BytesTest(unittest.TestCase):
    ROWS = ((), (("bytes", ()),), (("copy", 0, 1),), (("copy", 300, 2), ("bytes", tuple(range(256))), ("copy", 0, 2 ** 40)))

    def test_bytes_come_back(self):
        for rows in self.ROWS:
            data = delta_bytes(rows)
            self.assertIsInstance(data, tuple)
            self.assertEqual(read_delta(data), rows)
            self.assertEqual(data[-4:], sum_bytes(data[:-4]))

    def test_changed_and_cut_bytes_are_refused(self):
        data = delta_bytes((("copy", 300, 2), ("bytes", (1, 2, 3)), ("copy", 0, 1)))
        for place in range(len(data)):
            for change in (1, 128, 255):
                with self.assertRaises(OctetError):
                    read_delta(data[:place] + ((data[place] + change) % 256,) + data[place + 1:])
            for other in (data[:place], data[place + 1:], data + (0,) * (place + 1)):
                with self.assertRaises(OctetError):
                    read_delta(other)

    def test_other_bytes_with_a_right_sum_are_refused(self):
        body = delta_bytes((("copy", 3, 2), ("bytes", (1, 2, 3))))[:-4]
        self.assertEqual(read_delta(body + sum_bytes(body)), (("copy", 3, 2), ("bytes", (1, 2, 3))))
        for other in (body + (0,), body[:-1], body[:1], (), (1, 2, 0), (1, 5)):
            with self.assertRaises(OctetError):
                read_delta(other + sum_bytes(other))

    def test_what_cannot_be_told(self):
        with self.assertRaises(OctetError):
            delta_bytes((("copy", -1, 1),))


if __name__ == "__main__":
    unittest.main()
