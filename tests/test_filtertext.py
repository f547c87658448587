import random
import unittest

from wirestack.errors import FilterError
from wirestack.filters import SIGNS, SIZES, TESTS
from wirestack.filtertext import filter_bytes, filter_text, parse_filter, read_filter
from wirestack.octets import natural_bytes, sum_bytes

TOP = 2 ** 32 - 1
EACH = (("set", 1, 5), ("move", 0, 1), ("size", 2), ("need", 5, 12), ("load", 1, 0, 2), ("at", 2, 1, 1), ("get", 3, 2),
        ("put", 1, 2), ("op", "+", 1, 2), ("if", "<", 1, 2, 13), ("jump", 13), ("accept",), ("drop",), ("accept",))
TEXT = """set r1 5
move r0 r1
size r2
need 5 else p0
load r1 0 2
at r2 r1 1
get r3 c2
put c1 r2
r1 + r2
if r1 < r2 then p1
jump p1
accept
p0:
drop
p1:
accept
"""


def fault(deed, *parts):
    try:
        deed(*parts)
    except FilterError as e:
        return (e.word, e.row)
    return None


def drawn_rows(chance):
    """Return rows of a filter that are drawn by chance."""
    many = chance.randint(1, 64)
    rows = []
    for place in range(many):
        kinds = [word for word in SIZES if place + 1 < many or word not in ("need", "if", "jump")]
        later = chance.randint(place + 1, many - 1) if place + 1 < many else 0
        one, other = chance.randrange(8), chance.randrange(8)
        number = chance.choice((0, 1, 127, 128, TOP, chance.randrange(TOP)))
        rows.append({"set": ("set", one, number), "move": ("move", one, other),
                     "op": ("op", chance.choice(SIGNS), one, other), "size": ("size", one), "need": ("need", number, later),
                     "load": ("load", one, number, chance.choice((1, 2, 4))),
                     "at": ("at", one, other, chance.choice((1, 2, 4))),
                     "if": ("if", chance.choice(TESTS), one, other, later), "jump": ("jump", later),
                     "get": ("get", one, other), "put": ("put", one, other), "accept": ("accept",),
                     "drop": ("drop",)}[chance.choice(kinds)])
    return tuple(rows)


class TextTest(unittest.TestCase):
    def test_each_kind_of_row(self):
        self.assertEqual(filter_text(EACH), TEXT)
        self.assertEqual(parse_filter(TEXT), EACH)
        self.assertIsInstance(parse_filter("drop\n"), tuple)

    def test_all_signs_and_tests(self):
        for sign in SIGNS:
            rows = (("op", sign, 0, 7), ("accept",))
            self.assertEqual(filter_text(rows), f"r0 {sign} r7\naccept\n")
            self.assertEqual(parse_filter(filter_text(rows)), rows)
        for sign in TESTS:
            rows = (("if", sign, 0, 7, 1), ("accept",))
            self.assertEqual(filter_text(rows), f"if r0 {sign} r7 then p0\np0:\naccept\n")
            self.assertEqual(parse_filter(filter_text(rows)), rows)

    def test_names_go_by_the_rows_they_lead_to(self):
        rows = (("need", 1, 3), ("need", 2, 2), ("accept",), ("drop",))
        self.assertEqual(filter_text(rows), "need 1 else p1\nneed 2 else p0\np0:\naccept\np1:\ndrop\n")
        rows = (("need", 1, 2), ("jump", 2), ("drop",))
        self.assertEqual(filter_text(rows), "need 1 else p0\njump p0\np0:\ndrop\n")
        rows = tuple([("need", 1, place + 1) for place in range(12)] + [("drop",)])
        self.assertIn("\np11:\ndrop\n", filter_text(rows))

    def test_there_and_back(self):
        chance = random.Random(1)
        for _ in range(300):
            rows = drawn_rows(chance)
            self.assertEqual(parse_filter(filter_text(rows)), rows)

    def test_rows_that_are_no_filter_have_no_text(self):
        self.assertEqual(fault(filter_text, ()), ("no rows", 0))
        self.assertEqual(fault(filter_text, (("accept",), ("halt",))), ("no row", 1))
        self.assertEqual(fault(filter_text, (("accept",), ("jump", 0))), ("jump", 1))

    def test_empty_lines_count_as_lines_alone(self):
        self.assertEqual(parse_filter("\n\njump a\n\na:\n\naccept\n\n"), (("jump", 1), ("accept",)))
        self.assertEqual(fault(parse_filter, "\n\nhalt\n"), ("no text", 2))

    def test_texts_without_rows(self):
        for text in ("", "\n", "\n\n\n", "a:\n"):
            self.assertEqual(fault(parse_filter, text), ("no rows", 0), text)

    def test_a_last_line_without_its_end(self):
        self.assertEqual(fault(parse_filter, "accept"), ("no text", 0))
        self.assertEqual(fault(parse_filter, "accept\ndrop"), ("no text", 1))
        self.assertEqual(fault(parse_filter, "accept\n "), ("no text", 1))

    def test_names_of_other_letters_and_lengths(self):
        for name in ("a", "0", "p0", "accept", "a123456789", "zzzzzzzzzz"):
            self.assertEqual(parse_filter(f"jump {name}\n{name}:\ndrop\n"), (("jump", 1), ("drop",)))
        for name in ("", "a1234567890", "A", "a-b", "a b", "a:", "a_"):
            self.assertEqual(fault(parse_filter, f"accept\n{name}:\ndrop\n"), ("no text", 1), name)

    def test_names_told_twice_or_not_at_all(self):
        self.assertEqual(fault(parse_filter, "jump a\na:\ndrop\n\na:\ndrop\n"), ("no text", 4))
        self.assertEqual(fault(parse_filter, "a:\na:\ndrop\n"), ("no text", 1))
        self.assertEqual(fault(parse_filter, "accept\njump b\na:\ndrop\n"), ("no text", 1))
        self.assertEqual(fault(parse_filter, "need 1 else b\ndrop\n"), ("no text", 0))
        self.assertEqual(fault(parse_filter, "size r0\nif r0 < r0 then b\ndrop\n"), ("no text", 1))

    def test_two_names_of_one_row_and_names_that_nobody_uses(self):
        self.assertEqual(parse_filter("need 1 else a\njump b\na:\nb:\nc:\ndrop\n"), (("need", 1, 2), ("jump", 2), ("drop",)))

    def test_places_that_are_not_later(self):
        self.assertEqual(fault(parse_filter, "a:\naccept\njump a\n"), ("jump", 1))
        self.assertEqual(fault(parse_filter, "a:\njump a\n"), ("jump", 0))
        self.assertEqual(fault(parse_filter, "accept\njump a\na:\n"), ("jump", 1))

    def test_numbers(self):
        for text, number in (("0", 0), ("9", 9), ("10", 10), ("4294967295", TOP)):
            self.assertEqual(parse_filter(f"set r1 {text}\ndrop\n")[0], ("set", 1, number))
        for text in ("00", "01", "-1", "+1", "1.", "", "x", "42949672950", "00000000001", "1_0"):
            self.assertEqual(fault(parse_filter, f"accept\nset r1 {text}\n"), ("no text", 1), text)
        # A number of ten digits is one, but no row holds it if it is too great.
        self.assertEqual(fault(parse_filter, "\naccept\n\nset r1 4294967296\n"), ("no row", 1))
        self.assertEqual(fault(parse_filter, "set r1 9999999999\n"), ("no row", 0))

    def test_registers_cells_and_widths(self):
        for line in ("set r8 1", "set r10 1", "set r01 1", "set r 1", "set R1 1", "set 1 1", "set c1 1", "move r1 r9",
                     "get r1 c8", "get r1 r1", "get c1 c1", "put c8 r1", "put r1 c1", "size 1", "at r1 2 1", "r8 + r1",
                     "r1 + r8", "r1 + 5", "load r1 r2 1"):
            self.assertEqual(fault(parse_filter, f"{line}\naccept\n"), ("no text", 0), line)
        for width in (0, 3, 5, 8):
            self.assertEqual(fault(parse_filter, f"accept\nload r1 0 {width}\n"), ("no row", 1))

    def test_lines_that_are_none(self):
        for line in ("halt", "Accept", "accept r1", "drop 1", "set r1", "set r1 1 1", "set  r1 1", " accept", "accept ", " ",
                     "jump", "jump a b", "need 5 p0", "need 5 else", "need 5 then a", "need 5 a", "if r1 < r1 else a",
                     "if r1 < r1 a", "if < r1 r1 then a", "if r1 + r1 then a", "if r1 > r1 then a", "op + r1 r2", "r1 < r2",
                     "r1 and", "and r1 r2", "r1 / r2", "a: accept", "\taccept", "if r1 < r1 then a b"):
            self.assertEqual(fault(parse_filter, f"size r1\n{line}\na:\naccept\n"), ("no text", 1), line)

    def test_the_first_wrong_line_is_told(self):
        self.assertEqual(fault(parse_filter, "halt\nhalt\nA:\naccept"), ("no text", 0))

    def test_more_rows_than_a_filter_has(self):
        self.assertEqual(len(parse_filter("accept\n" * 64)), 64)
        self.assertEqual(fault(parse_filter, "accept\n" * 65), ("no rows", 0))


class BytesTest(unittest.TestCase):
    def test_the_bytes_of_each_kind_of_row(self):
        words = ("accept", "at", "drop", "get", "if", "jump", "load", "move", "need", "op", "put", "set", "size")
        for row, parts in ((("set", 1, 300), (1, 172, 2)), (("move", 0, 1), (0, 1)), (("size", 2), (2,)),
                           (("load", 1, 0, 2), (1, 0, 2)), (("at", 2, 1, 4), (2, 1, 4)), (("get", 3, 2), (3, 2)),
                           (("put", 1, 2), (1, 2)), (("op", "shift", 1, 2), (6, 1, 2)), (("need", 5, 1), (5, 1)),
                           (("if", "<=", 1, 2, 1), (3, 1, 2, 1)), (("jump", 1), (1,)), (("accept",), ()), (("drop",), ())):
            data = (2, words.index(row[0])) + parts + (2,)
            self.assertEqual(filter_bytes((row, ("drop",))), data + sum_bytes(data), row)
        for number, sign in enumerate(SIGNS):
            self.assertEqual(filter_bytes((("op", sign, 0, 0), ("drop",)))[2], number)
        for number, sign in enumerate(TESTS):
            self.assertEqual(filter_bytes((("if", sign, 0, 0, 1), ("drop",)))[2], number)

    def test_there_and_back(self):
        chance = random.Random(2)
        self.assertEqual(read_filter(filter_bytes(EACH)), EACH)
        for _ in range(300):
            rows = drawn_rows(chance)
            found = read_filter(filter_bytes(rows))
            self.assertEqual(found, rows)
            self.assertIsInstance(found, tuple)

    def test_rows_that_are_no_filter_have_no_bytes(self):
        self.assertEqual(fault(filter_bytes, ()), ("no rows", 0))
        self.assertEqual(fault(filter_bytes, (("set", 8, 1),)), ("no row", 0))

    def test_each_changed_or_cut_byte_is_refused(self):
        data = filter_bytes(EACH)
        for place in range(len(data)):
            for change in (1, 77, 128, 255):
                bent = data[:place] + ((data[place] + change) % 256,) + data[place + 1:]
                self.assertEqual(fault(read_filter, bent), ("no bytes", 0))
            self.assertEqual(fault(read_filter, data[:place]), ("no bytes", 0))
            self.assertEqual(fault(read_filter, data[:place] + data[place + 1:]), ("no bytes", 0))
        self.assertEqual(fault(read_filter, data + (0,)), ("no bytes", 0))
        self.assertEqual(fault(read_filter, ()), ("no bytes", 0))

    def signed(self, *numbers):
        data = ()
        for number in numbers:
            data = data + natural_bytes(number)
        return data + sum_bytes(data)

    def test_bytes_with_a_right_sum_that_are_no_rows(self):
        self.assertEqual(read_filter(self.signed(1, 2)), (("drop",),))
        self.assertEqual(fault(read_filter, self.signed()), ("no bytes", 0))
        self.assertEqual(fault(read_filter, self.signed(2, 2)), ("no bytes", 0))
        self.assertEqual(fault(read_filter, self.signed(1, 2, 2)), ("no bytes", 0))
        self.assertEqual(fault(read_filter, self.signed(1, 13)), ("no bytes", 0))
        self.assertEqual(fault(read_filter, self.signed(2, 2, 9, 7, 1, 1)), ("no bytes", 0))
        self.assertEqual(fault(read_filter, self.signed(2, 4, 4, 1, 1, 1, 2)), ("no bytes", 0))
        self.assertEqual(fault(read_filter, (129, 0, 2) + sum_bytes((129, 0, 2))), ("no bytes", 0))
        self.assertEqual(fault(read_filter, self.signed(10 ** 15)), ("no bytes", 0))

    def test_what_is_wrong_with_rows_that_are_read(self):
        self.assertEqual(fault(read_filter, self.signed(0)), ("no rows", 0))
        self.assertEqual(fault(read_filter, self.signed(65, *[2] * 65)), ("no rows", 0))
        self.assertEqual(fault(read_filter, self.signed(2, 2, 12, 8)), ("no row", 1))
        self.assertEqual(fault(read_filter, self.signed(2, 2, 11, 1, TOP + 1)), ("no row", 1))
        self.assertEqual(fault(read_filter, self.signed(2, 2, 6, 1, 0, 3)), ("no row", 1))
        self.assertEqual(fault(read_filter, self.signed(2, 2, 5, 1)), ("jump", 1))
        self.assertEqual(fault(read_filter, self.signed(2, 5, 2, 2)), ("jump", 0))


if __name__ == "__main__":
    unittest.main()
