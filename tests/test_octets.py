import random
import unittest
import zlib

from wirestack.errors import OctetError
from wirestack.octets import (LETTERS, Reader, blob_bytes, bytes_text, check_bytes, fixed_bytes, fixed_number,
                              natural_bytes, sum_bytes, sum_of_summed, text_bytes)


def read_number(data):
    reader = Reader(data)
    return reader.natural(), reader.place


class NaturalTest(unittest.TestCase):
    def test_bytes_of_numbers_reckoned_by_hand(self):
        for number, data in ((0, (0,)), (1, (1,)), (127, (127,)), (128, (128, 1)), (300, (172, 2)), (16383, (255, 127)),
                             (16384, (128, 128, 1)), (2 ** 62 - 1, (255,) * 8 + (63,))):
            self.assertEqual(natural_bytes(number), data)
            self.assertEqual(read_number(data), (number, len(data)))

    def test_numbers_come_back(self):
        chance = random.Random(1)
        for bits in range(1, 63):
            for number in (2 ** bits - 1, 2 ** (bits - 1), chance.randrange(2 ** bits)):
                data = natural_bytes(number)
                self.assertIsInstance(data, tuple)
                self.assertTrue(all(byte >= 128 for byte in data[:-1]) and data[-1] < 128)
                self.assertEqual(read_number(data + (77, 200)), (number, len(data)))

    def test_numbers_out_of_bounds_are_refused(self):
        for number in (-1, -128, 2 ** 62, 2 ** 62 + 1, 2 ** 70):
            with self.assertRaises(OctetError):
                natural_bytes(number)

    def test_needless_last_zeros_are_refused(self):
        for data in ((128, 0), (255, 0), (128, 128, 0), (133, 128, 128, 0), (255,) * 8 + (0,)):
            with self.assertRaises(OctetError):
                Reader(data).natural()

    def test_numbers_that_are_too_long_or_too_large_are_refused(self):
        for data in ((255,) * 8 + (64,), (128,) * 8 + (64,), (255,) * 9 + (1,), (128,) * 9 + (1,), (255,) * 30 + (1,)):
            with self.assertRaises(OctetError):
                Reader(data).natural()

    def test_bytes_that_end_too_early_are_refused_at_their_end(self):
        for many in range(9):
            reader = Reader((200,) * many)
            with self.assertRaises(OctetError):
                reader.natural()
            self.assertEqual(reader.place, many)

    def test_a_refused_number_is_refused_where_it_begins_behind_others(self):
        reader = Reader((5, 129, 128))
        self.assertEqual(reader.natural(), 5)
        with self.assertRaises(OctetError):
            reader.natural()
        self.assertEqual(reader.place, 3)


class FixedTest(unittest.TestCase):
    def test_the_highest_byte_stands_first(self):
        self.assertEqual(fixed_bytes(258, 2), (1, 2))
        self.assertEqual(fixed_bytes(258, 4), (0, 0, 1, 2))
        self.assertEqual(fixed_bytes(0, 3), (0, 0, 0))
        self.assertEqual(fixed_bytes(65535, 2), (255, 255))
        self.assertEqual(fixed_bytes(0, 0), ())
        self.assertEqual(fixed_number((1, 2)), 258)
        self.assertEqual(fixed_number((1, 0, 0, 0)), 256 ** 3)
        self.assertEqual(fixed_number(()), 0)

    def test_numbers_come_back(self):
        for many in range(1, 9):
            for number in (0, 1, 255, 256 ** (many - 1), 256 ** many - 1):
                if number < 256 ** many:
                    data = fixed_bytes(number, many)
                    self.assertEqual((len(data), fixed_number(data)), (many, number))

    def test_numbers_that_do_not_fit_are_refused(self):
        for number, many in ((256, 1), (65536, 2), (-1, 1), (-1, 4), (-256, 1), (1, 0), (2 ** 32, 4)):
            with self.assertRaises(OctetError):
                fixed_bytes(number, many)


class TextTest(unittest.TestCase):
    def test_letters_are_the_line_end_and_the_printable_signs_without_percent(self):
        self.assertEqual(LETTERS, "\n" + "".join(chr(code) for code in range(32, 127) if code != 37))
        self.assertEqual(len(LETTERS), 95)

    def test_each_letter_comes_back(self):
        for place, sign in enumerate(LETTERS):
            self.assertEqual(text_bytes(sign), (place,))
            self.assertEqual(bytes_text((place,)), sign)
        self.assertEqual(bytes_text(text_bytes(LETTERS)), LETTERS)
        self.assertEqual(text_bytes("a b\n"), (65, 1, 66, 0))

    def test_empty_texts(self):
        self.assertEqual(text_bytes(""), ())
        self.assertEqual(bytes_text(()), "")

    def test_other_signs_are_refused(self):
        for text in ("%", "a%b", "\t", "\r", "\x00", "\x7f", "\xe4", "\u20ac", "good\u2028"):
            with self.assertRaises(OctetError):
                text_bytes(text)

    def test_bytes_that_are_no_letters_are_refused(self):
        for data in ((95,), (255,), (1, 2, 95), (128, 0), (-1,), (1, -95)):
            with self.assertRaises(OctetError):
                bytes_text(data)
        self.assertEqual(bytes_text((94,)), "~")


class SumTest(unittest.TestCase):
    def test_sums_reckoned_by_hand(self):
        self.assertEqual(sum_bytes(()), (0, 0, 0, 1))
        self.assertEqual(sum_bytes((0,)), (0, 1, 0, 1))
        self.assertEqual(sum_bytes((1, 2, 3)), (0, 13, 0, 7))
        self.assertEqual(sum_bytes((255, 255)), (2, 255, 1, 255))

    def test_sums_go_by_65521(self):
        for data in ((255,) * 257, (255,) * 2000, tuple(range(256)) * 20):
            whole = zlib.adler32(bytes(data))
            self.assertEqual(sum_bytes(data), tuple(whole.to_bytes(4, "big")))

    def test_each_changed_byte_changes_the_sum(self):
        chance = random.Random(2)
        data = tuple(chance.randrange(256) for _ in range(60))
        for place in range(len(data)):
            for change in (1, 100, 255):
                other = data[:place] + ((data[place] + change) % 256,) + data[place + 1:]
                self.assertNotEqual(sum_bytes(other), sum_bytes(data))
        self.assertNotEqual(sum_bytes(data[::-1]), sum_bytes(data))


    def test_the_sum_of_summed_bytes_is_that_of_all_of_them(self):
        chance = random.Random(6)
        rows = [(), (0,), (255,) * 400] + [tuple(chance.randrange(256) for _ in range(chance.randrange(90))) for _ in range(200)]
        for data in rows:
            summed = data + sum_bytes(data)
            self.assertEqual(sum_of_summed(summed), sum_bytes(summed))
            # The same, by remainders all the way.
            first, second = 1, 0
            for byte in summed:
                first = (first + byte) % 65521
                second = (second + first) % 65521
            self.assertEqual(sum_bytes(summed), (second // 256, second % 256, first // 256, first % 256))


class CheckTest(unittest.TestCase):
    def test_tuples_of_bytes_go(self):
        for data in ((), (0,), (255, 0, 7), tuple(range(256))):
            self.assertIsNone(check_bytes(data))

    def test_other_values_are_refused(self):
        for data in ([], [1, 2], "ab", b"ab", None, 5, (1, True), (False,), (-1,), (256,), (1, 2, 300), ("a",), (1, None),
                     ((1,),)):
            with self.assertRaises(OctetError):
                check_bytes(data)


class ReaderTest(unittest.TestCase):
    def test_bytes_are_taken_in_order(self):
        reader = Reader((1, 2, 3, 4))
        self.assertEqual((reader.data, reader.place, reader.at_end()), ((1, 2, 3, 4), 0, False))
        self.assertEqual(reader.take(1), (1,))
        self.assertEqual(reader.take(0), ())
        self.assertEqual((reader.take(3), reader.place, reader.at_end()), ((2, 3, 4), 4, True))
        self.assertEqual(reader.take(0), ())

    def test_more_bytes_than_there_are_cannot_be_taken(self):
        reader = Reader((1, 2, 3))
        reader.take(1)
        with self.assertRaises(OctetError):
            reader.take(3)
        self.assertEqual((reader.place, reader.data), (1, (1, 2, 3)))
        self.assertEqual(reader.take(2), (2, 3))

    def test_a_reader_of_nothing_is_at_its_end(self):
        self.assertTrue(Reader(()).at_end())

    def test_blobs_come_back(self):
        for data in ((), (0,), (1, 2, 3), (200,) * 127, (7,) * 128, tuple(range(256)) * 2):
            whole = blob_bytes(data)
            self.assertEqual(whole, natural_bytes(len(data)) + data)
            reader = Reader(whole + (9,))
            self.assertEqual(reader.blob(), data)
            self.assertEqual(reader.place, len(whole))

    def test_blobs_that_are_cut_short_are_refused(self):
        for data in ((1,), (1, 2, 3), (7,) * 128):
            whole = blob_bytes(data)
            for many in range(len(whole)):
                with self.assertRaises(OctetError):
                    Reader(whole[:many]).blob()

    def test_a_reader_stands_at_the_bytes_that_a_cut_blob_has(self):
        reader = Reader((3, 8, 9))
        with self.assertRaises(OctetError):
            reader.blob()
        self.assertEqual((reader.place, reader.take(2)), (1, (8, 9)))


if __name__ == "__main__":
    unittest.main()
