import random
import unittest

from wirestack.errors import FilterError
from wirestack.filters import SIGNS, TESTS, holds, reckoned, run_filter
from wirestack.verifier import Knowledge, is_safe, narrowed, span_by, verify, whole_bits

TOP = 2 ** 32 - 1
ALL = (0, TOP)
NONE = (None,) * 8
EDGES = (0, 1, 2, 31, 32, 33, 255, 256, 2 ** 31 - 1, 2 ** 31, TOP - 1, TOP)


def known(rows):
    """Return what is known before each row, as plain values."""
    found = verify(tuple(rows))
    return [None if one is None else one.shown() for one in found]


def fault(rows):
    try:
        verify(tuple(rows))
    except FilterError as e:
        return (e.word, e.row)
    return None


def span(rows, index=1):
    """Return the span of a register behind rows."""
    return known(tuple(rows) + (("accept",),))[-1][1][index]


class KnowledgeTest(unittest.TestCase):
    def test_shown(self):
        self.assertEqual(Knowledge(3, NONE).shown(), (3, NONE))

    def test_widened_holds_what_holds_in_both(self):
        one = Knowledge(3, ((1, 5), None, (2, 2), None) + (None,) * 4)
        other = Knowledge(7, ((4, 9), (1, 1), None, None) + (None,) * 4)
        self.assertEqual(one.widened(other).shown(), (3, ((1, 9),) + (None,) * 7))
        self.assertEqual(other.widened(one).shown(), (3, ((1, 9),) + (None,) * 7))
        self.assertEqual(one.shown()[0], 3)


class RowTest(unittest.TestCase):
    def test_at_the_beginning_nothing_is_known(self):
        self.assertEqual(known([("accept",)]), [(0, NONE)])

    def test_verify_returns_a_tuple_of_knowledge(self):
        found = verify((("set", 1, 5), ("drop",)))
        self.assertIsInstance(found, tuple)
        self.assertIsInstance(found[0], Knowledge)

    def test_each_kind_of_row(self):
        self.assertEqual(span([("set", 1, 7)]), (7, 7))
        self.assertEqual(span([("set", 0, 7), ("move", 1, 0)]), (7, 7))
        self.assertEqual(span([("size", 1)]), (0, 4000))
        self.assertEqual(span([("need", 9, 2), ("size", 1)][1:]), (0, 4000))
        self.assertEqual(span([("get", 1, 7)]), ALL)
        for many, high in ((1, 255), (2, 65535), (4, TOP)):
            rows = [("need", 8, 2), ("jump", 3), ("drop",), ("load", 1, 8 - many, many)]
            self.assertEqual(span(rows), (0, high))
            rows = [("need", 8, 2), ("jump", 3), ("drop",), ("set", 2, 8 - many), ("at", 1, 2, many)]
            self.assertEqual(span(rows), (0, high))
        self.assertEqual(span([("set", 1, 7), ("put", 3, 1)]), (7, 7))
        self.assertEqual(span([("set", 1, 7), ("set", 2, 5), ("op", "-", 1, 2)]), (2, 2))

    def test_a_row_changes_one_register_alone(self):
        rows = [("set", 0, 1), ("set", 7, 2), ("move", 3, 7), ("accept",)]
        self.assertEqual(known(rows)[3], (0, ((1, 1), None, None, (2, 2), None, None, None, (2, 2))))

    def test_need_and_its_both_ways(self):
        rows = [("need", 5, 3), ("size", 1), ("accept",), ("size", 1), ("drop",)]
        found = known(rows)
        self.assertEqual([one[0] for one in found], [0, 5, 5, 0, 0])
        self.assertEqual(found[2][1][1], (5, 4000))
        self.assertEqual(found[4][1][1], (0, 4000))

    def test_the_jump_of_a_need_that_is_met_is_never_reached(self):
        for number, reached in ((5, False), (4, False), (6, True)):
            rows = [("need", 5, 4), ("need", number, 3), ("accept",), ("load", 9, 0, 1), ("drop",)]
            rows[3] = ("jump", 4)
            self.assertEqual(known(rows)[3] is not None, reached, number)
        self.assertEqual(known([("need", 0, 2), ("accept",), ("drop",)])[2], None)
        self.assertEqual(known([("need", 9, 4), ("need", 3, 4), ("accept",), ("accept",), ("drop",)])[2][0], 9)

    def test_rows_that_are_never_reached(self):
        self.assertEqual(known([("jump", 2), ("move", 1, 2), ("accept",), ("load", 1, 9, 4), ("drop",)]),
                         [(0, NONE), None, (0, NONE), None, None])

    def test_a_row_that_several_lead_to_knows_what_holds_for_all(self):
        rows = [("get", 0, 0), ("set", 1, 5), ("set", 3, 1), ("if", "<", 0, 1, 7), ("set", 1, 9), ("set", 2, 1),
                ("jump", 7), ("accept",)]
        found = known(rows)[7][1]
        self.assertEqual(found[:4], (ALL, (5, 9), None, (1, 1)))

    def test_least_sizes_are_joined(self):
        rows = [("need", 5, 3), ("need", 9, 3), ("jump", 3), ("accept",)]
        self.assertEqual(known(rows)[3][0], 0)
        rows = [("need", 5, 5), ("need", 9, 4), ("jump", 4), ("drop",), ("accept",), ("drop",)]
        self.assertEqual(known(rows)[4][0], 5)


class FaultTest(unittest.TestCase):
    def test_rows_that_are_no_filter(self):
        self.assertEqual(fault([]), ("no rows", 0))
        self.assertEqual(fault([("accept",)] * 65), ("no rows", 0))
        self.assertEqual(fault([("accept",), ("stop",)]), ("no row", 1))
        self.assertEqual(fault([("accept",), ("jump", 1)]), ("jump", 1))
        self.assertFalse(is_safe(()))
        self.assertFalse(is_safe((("jump", 0),)))

    def test_registers_that_may_not_be_set(self):
        self.assertEqual(fault([("move", 1, 2), ("accept",)]), ("unset", 0))
        self.assertEqual(fault([("set", 2, 1), ("op", "+", 1, 2), ("accept",)]), ("unset", 1))
        self.assertEqual(fault([("set", 1, 1), ("op", "+", 1, 2), ("accept",)]), ("unset", 1))
        self.assertEqual(fault([("set", 1, 1), ("if", "<", 1, 2, 2), ("accept",)]), ("unset", 1))
        self.assertEqual(fault([("set", 1, 1), ("if", "<", 2, 1, 2), ("accept",)]), ("unset", 1))
        self.assertEqual(fault([("if", "==", 2, 2, 1), ("accept",)]), ("unset", 0))
        self.assertEqual(fault([("put", 1, 0), ("accept",)]), ("unset", 0))
        self.assertEqual(fault([("at", 1, 0, 1), ("accept",)]), ("unset", 0))
        self.assertEqual(fault([("need", 1, 2), ("set", 1, 1), ("put", 0, 1), ("accept",)]), ("unset", 2))
        self.assertIsNone(fault([("need", 1, 3), ("set", 1, 1), ("put", 0, 1), ("accept",)]))

    def test_bytes_that_may_not_be_there(self):
        self.assertEqual(fault([("load", 1, 0, 1), ("accept",)]), ("outside", 0))
        for many in (1, 2, 4):
            for size, word in ((9 + many, None), (8 + many, ("outside", 1))):
                self.assertEqual(fault([("need", size, 2), ("load", 1, 9, many), ("accept",)]), word)
                rows = [("need", size, 4), ("set", 2, 9), ("at", 1, 2, many), ("accept",), ("drop",)]
                self.assertEqual(fault(rows), None if word is None else ("outside", 2))

    def test_the_greatest_place_of_an_at_counts(self):
        rows = [("need", 256, 5), ("load", 1, 0, 1), ("at", 2, 1, 1), ("accept",), ("drop",), ("drop",)]
        self.assertIsNone(fault(rows))
        rows[2] = ("at", 2, 1, 2)
        self.assertEqual(fault(rows), ("outside", 2))
        rows[2] = ("at", 2, 1, 1)
        rows[0] = ("need", 255, 5)
        self.assertEqual(fault(rows), ("outside", 2))

    def test_unset_stands_before_outside(self):
        self.assertEqual(fault([("at", 1, 2, 4), ("accept",)]), ("unset", 0))

    def test_a_way_behind_the_last_row(self):
        self.assertEqual(fault([("set", 1, 1)]), ("no end", 1))
        self.assertEqual(fault([("accept",), ("set", 1, 1)]), None)
        self.assertEqual(fault([("need", 5, 1), ("set", 1, 1)]), ("no end", 2))
        self.assertEqual(fault([("jump", 1), ("set", 1, 1)]), ("no end", 2))
        self.assertEqual(fault([("set", 1, 3), ("if", "==", 1, 1, 3), ("set", 2, 2), ("drop",)]), None)
        self.assertEqual(fault([("set", 1, 3), ("accept",), ("if", "!=", 1, 1, 3), ("set", 2, 2)]), None)

    def test_the_first_row_that_is_wrong_is_told(self):
        self.assertEqual(fault([("set", 1, 1), ("load", 2, 0, 1), ("move", 3, 4)]), ("outside", 1))
        self.assertEqual(fault([("move", 3, 4), ("load", 2, 0, 1)]), ("unset", 0))
        self.assertEqual(fault([("jump", 2), ("move", 3, 4), ("load", 2, 0, 1)]), ("outside", 2))

    def test_is_safe(self):
        self.assertTrue(is_safe((("accept",),)))
        self.assertFalse(is_safe((("set", 1, 1),)))
        self.assertFalse(is_safe((("move", 1, 2), ("drop",))))


class TestTest(unittest.TestCase):
    """The rows that compare."""

    def ways(self, sign, one, other):
        """Return what is known of registers 1 and 2 where a comparison leads, and behind it."""
        rows = [("get", 1, 0), ("get", 2, 0)]
        for index, (low, high) in ((1, one), (2, other)):
            rows.extend((("set", 3, low), ("if", "<", index, 3, 20), ("set", 3, high), ("if", "<", 3, index, 20)))
        rows.append(("if", sign, 1, 2, 12))
        rows.extend([("accept",)] * (21 - len(rows)))
        found = known(rows)
        self.assertEqual(found[10][1][1:3], (one, other))
        return tuple([None if found[place] is None else found[place][1][1:3] for place in (12, 11)])

    def test_below(self):
        self.assertEqual(self.ways("<", (3, 9), (1, 6)), (((3, 5), (4, 6)), ((3, 9), (1, 6))))
        self.assertEqual(self.ways("<", (1, 6), (3, 9)), (((1, 6), (3, 9)), ((3, 6), (3, 6))))
        self.assertEqual(self.ways("<", (1, 2), (3, 9)), (((1, 2), (3, 9)), None))
        self.assertEqual(self.ways("<", (3, 9), (1, 3)), (None, ((3, 9), (1, 3))))
        self.assertEqual(self.ways("<", (0, 0), (0, 0)), (None, ((0, 0), (0, 0))))
        self.assertEqual(self.ways("<", ALL, ALL), (((0, TOP - 1), (1, TOP)), (ALL, ALL)))

    def test_not_above(self):
        self.assertEqual(self.ways("<=", (3, 9), (1, 6)), (((3, 6), (3, 6)), ((3, 9), (1, 6))))
        self.assertEqual(self.ways("<=", (1, 6), (3, 9)), (((1, 6), (3, 9)), ((4, 6), (3, 5))))
        self.assertEqual(self.ways("<=", (1, 3), (3, 9)), (((1, 3), (3, 9)), None))
        self.assertEqual(self.ways("<=", (4, 9), (1, 3)), (None, ((4, 9), (1, 3))))
        self.assertEqual(self.ways("<=", ALL, ALL), ((ALL, ALL), ((1, TOP), (0, TOP - 1))))

    def test_equal_and_not_equal(self):
        self.assertEqual(self.ways("==", (3, 9), (1, 6)), (((3, 6), (3, 6)), ((3, 9), (1, 6))))
        self.assertEqual(self.ways("==", (3, 9), (1, 2)), (None, ((3, 9), (1, 2))))
        self.assertEqual(self.ways("==", (4, 4), (4, 4)), (((4, 4), (4, 4)), None))
        self.assertEqual(self.ways("==", (4, 4), (4, 5)), (((4, 4), (4, 4)), ((4, 4), (4, 5))))
        self.assertEqual(self.ways("!=", (3, 9), (1, 6)), (((3, 9), (1, 6)), ((3, 6), (3, 6))))
        self.assertEqual(self.ways("!=", (4, 4), (4, 4)), (None, ((4, 4), (4, 4))))
        self.assertEqual(self.ways("!=", (4, 4), (5, 5)), (((4, 4), (5, 5)), None))

    def test_a_register_beside_itself(self):
        for sign, holds_always in (("==", True), ("<=", True), ("!=", False), ("<", False)):
            rows = [("get", 1, 0), ("if", sign, 1, 1, 3), ("accept",), ("accept",)]
            found = known(rows)
            self.assertEqual(found[3 if holds_always else 2][1][1], ALL)
            self.assertIsNone(found[2 if holds_always else 3])

    def test_a_jump_to_the_next_row_knows_what_holds_on_both_ways(self):
        rows = [("get", 1, 0), ("set", 2, 5), ("if", "<", 1, 2, 3), ("accept",)]
        self.assertEqual(known(rows)[3][1][1], ALL)


class SpanTest(unittest.TestCase):
    def test_sums_differences_and_products(self):
        self.assertEqual(span_by("+", (1, 2), (10, 20)), (11, 22))
        self.assertEqual(span_by("+", (0, TOP - 1), (0, 1)), (0, TOP))
        self.assertEqual(span_by("+", (0, TOP), (0, 1)), ALL)
        self.assertEqual(span_by("+", (TOP, TOP), (1, 1)), ALL)
        self.assertEqual(span_by("-", (10, 20), (1, 10)), (0, 19))
        self.assertEqual(span_by("-", (10, 20), (1, 11)), ALL)
        self.assertEqual(span_by("-", (0, 0), (1, 1)), ALL)
        self.assertEqual(span_by("*", (2, 3), (4, 5)), (8, 15))
        self.assertEqual(span_by("*", (0, 65536), (0, 65535)), (0, 65536 * 65535))
        self.assertEqual(span_by("*", (0, 65536), (0, 65536)), ALL)
        self.assertEqual(span_by("*", (TOP, TOP), (1, 1)), (TOP, TOP))

    def test_bits(self):
        self.assertEqual(span_by("and", (5, 9), (3, 12)), (0, 9))
        self.assertEqual(span_by("and", (5, 12), (3, 9)), (0, 9))
        self.assertEqual(span_by("or", (5, 9), (3, 4)), (0, 15))
        self.assertEqual(span_by("or", (1, 2), (3, 16)), (0, 31))
        self.assertEqual(span_by("xor", (0, 0), (0, 0)), (0, 0))
        self.assertEqual(span_by("xor", (8, 8), (7, 7)), (0, 15))
        self.assertEqual(span_by("or", ALL, (0, 0)), ALL)

    def test_shifts(self):
        self.assertEqual(span_by("shift", (64, 200), (1, 3)), (8, 100))
        self.assertEqual(span_by("shift", (64, 200), (0, 31)), (0, 200))
        self.assertEqual(span_by("shift", (2 ** 31, TOP), (31, 31)), (1, 1))
        self.assertEqual(span_by("shift", (64, 200), (31, 32)), (0, 200))
        self.assertEqual(span_by("shift", (64, 200), (32, 32)), (0, 200))
        self.assertEqual(span_by("shift", (64, 200), (33, 40)), (0, 200))

    def test_whole_bits(self):
        for number, most in ((0, 0), (1, 1), (2, 3), (3, 3), (4, 7), (8, 15), (255, 255), (256, 511), (TOP, TOP)):
            self.assertEqual(whole_bits(number), most)

    def test_every_number_is_within_the_span(self):
        chance = random.Random(5)
        for _ in range(3000):
            one, other = [tuple(sorted((chance.choice(EDGES), chance.choice(EDGES)))) for _ in range(2)]
            a, b = [chance.choice((low, high, chance.randint(low, high))) for low, high in (one, other)]
            for sign in SIGNS:
                low, high = span_by(sign, one, other)
                self.assertTrue(0 <= low <= reckoned(sign, a, b) <= high <= TOP, (sign, one, other, a, b))

    def test_narrowed(self):
        self.assertEqual(narrowed("<", (0, 9), (0, 5)), ((0, 4), (1, 5)))
        self.assertIsNone(narrowed("<", (5, 9), (0, 5)))
        self.assertEqual(narrowed("<=", (5, 9), (0, 5)), ((5, 5), (5, 5)))
        self.assertIsNone(narrowed("<=", (6, 9), (0, 5)))
        self.assertEqual(narrowed("==", (3, 9), (0, 5)), ((3, 5), (3, 5)))
        self.assertIsNone(narrowed("==", (6, 9), (0, 5)))
        self.assertEqual(narrowed("!=", (3, 9), (0, 5)), ((3, 9), (0, 5)))
        self.assertIsNone(narrowed("!=", (3, 3), (3, 3)))

    def test_numbers_between_which_a_comparison_holds_stay(self):
        chance = random.Random(6)
        for _ in range(3000):
            one, other = [tuple(sorted((chance.randint(0, 9), chance.randint(0, 9)))) for _ in range(2)]
            for sign in TESTS:
                pairs = [(a, b) for a in range(one[0], one[1] + 1) for b in range(other[0], other[1] + 1)
                         if holds(sign, a, b)]
                found = narrowed(sign, one, other)
                if found is None:
                    self.assertEqual(pairs, [])
                for a, b in pairs:
                    self.assertTrue(found[0][0] <= a <= found[0][1] and found[1][0] <= b <= found[1][1])


class Maker:
    """Filters that are drawn by chance."""

    def __init__(self, seed):
        self.chance = random.Random(seed)

    def number(self):
        return self.chance.choice((0, 1, 2, 3, 4, 5, 8, 31, 32, 255, 256, 3999, 4000, 4001, TOP - 1, TOP))

    def row(self, place, many):
        chance = self.chance
        index, other, cell = [chance.randrange(4) for _ in range(3)]
        later = chance.randint(place + 1, min(many - 1, place + 5)) if place + 1 < many else 0
        kinds = ["set", "set", "move", "op", "op", "size", "load", "at", "get", "put", "accept"]
        if later:
            kinds += ["need", "need", "if", "if", "if", "jump"]
        return {"set": ("set", index, self.number()), "move": ("move", index, other),
                "op": ("op", chance.choice(SIGNS), index, other), "size": ("size", index),
                "load": ("load", index, chance.randrange(6), chance.choice((1, 2, 4))),
                "at": ("at", index, other, chance.choice((1, 2, 4))), "get": ("get", index, cell),
                "put": ("put", cell, index), "accept": ("accept",), "need": ("need", chance.randrange(12), later),
                "if": ("if", chance.choice(TESTS), index, other, later), "jump": ("jump", later)}[chance.choice(kinds)]

    def rows(self):
        many = self.chance.randint(2, 14)
        rows = [self.row(place, many) for place in range(many - 1)]
        # Most filters would go astray at once otherwise.
        return tuple([("need", 6, many - 1)] * self.chance.randrange(2) + rows)[:many - 1] + (("drop",),)


class SafetyTest(unittest.TestCase):
    def test_filters_that_the_verifier_lets_by_never_go_astray(self):
        maker = Maker(7)
        safe = 0
        for _ in range(6000):
            rows = maker.rows()
            if not is_safe(rows):
                continue
            safe += 1
            for _ in range(12):
                size = maker.chance.choice((0, 1, 2, 3, 4, 5, 6, 7, 9, 12, 300))
                data = tuple([maker.chance.choice((0, 1, 2, 255, maker.chance.randrange(256))) for _ in range(size)])
                cells = [maker.number() for _ in range(8)]
                word, _ = run_filter(rows, data, cells)
                self.assertIn(word, ("accept", "drop"))
        self.assertGreater(safe, 700)

    def test_what_is_known_holds_in_each_run(self):
        maker = Maker(8)
        for _ in range(1500):
            rows = maker.rows()
            try:
                found = verify(rows)
            except FilterError:
                continue
            # A filter cut off at a row shows in its cells what the registers hold there.
            for place in range(1, len(rows)):
                if found[place] is None or any(row[-1] > place for row in rows[:place] if row[0] in ("need", "if", "jump")):
                    continue
                least, spans = found[place].shown()
                for index in range(4):
                    if spans[index] is None:
                        continue
                    probe = rows[:place] + (("put", 7, index), ("accept",))
                    for size in (0, 3, 5, 6, 11):
                        data = tuple([maker.chance.randrange(256) for _ in range(size)])
                        cells = [maker.number() for _ in range(7)] + [-1]
                        run_filter(probe, data, cells)
                        if cells[7] != -1:
                            self.assertGreaterEqual(size, least)
                            self.assertTrue(spans[index][0] <= cells[7] <= spans[index][1])

    def test_many_filters_that_go_astray_are_found(self):
        maker = Maker(9)
        for _ in range(3000):
            rows = maker.rows()
            for size in (0, 4, 8):
                try:
                    run_filter(rows, (0,) * size, [0] * 8)
                except FilterError:
                    self.assertFalse(is_safe(rows))


if __name__ == "__main__":
    unittest.main()
