import random
import unittest

from wirestack.errors import FilterError
from wirestack.filters import SIGNS, SIZES, TESTS, check_rows, holds, reckoned, run_filter

TOP = 2 ** 32 - 1
NUMBERS = (0, 1, 2, 31, 32, 33, 255, 2 ** 31 - 1, 2 ** 31, TOP - 1, TOP)


def told(rows, data=(), cells=None):
    return run_filter(tuple(rows), data, [0] * 8 if cells is None else cells)


def worth(rows, data=(), cells=None):
    """Return the number that rows leave in register 1."""
    cells = [0] * 8 if cells is None else cells
    run_filter(tuple(rows) + (("put", 7, 1), ("accept",)), data, cells)
    return cells[7]


class FilterCase(unittest.TestCase):
    def fault(self, deed, *parts):
        with self.assertRaises(FilterError) as caught:
            deed(*parts)
        return (caught.exception.word, caught.exception.row)


class ReckonTest(unittest.TestCase):
    def test_the_words(self):
        self.assertEqual(SIGNS, ("+", "-", "*", "and", "or", "xor", "shift"))
        self.assertEqual(TESTS, ("==", "!=", "<", "<="))
        self.assertEqual(SIZES, {"set": 3, "move": 3, "op": 4, "size": 2, "need": 3, "load": 4, "at": 4, "if": 5,
                                 "jump": 2, "get": 3, "put": 3, "accept": 1, "drop": 1})

    def test_signs_at_the_edges(self):
        for sign, one, other, number in (
                ("+", 2, 3, 5), ("+", TOP, 1, 0), ("+", TOP, TOP, TOP - 1), ("-", 5, 3, 2), ("-", 3, 5, TOP - 1),
                ("-", 0, 1, TOP), ("-", 0, TOP, 1), ("*", 7, 6, 42), ("*", 65536, 65536, 0), ("*", TOP, TOP, 1),
                ("*", TOP, 2, TOP - 1), ("and", 12, 10, 8), ("and", TOP, 5, 5), ("or", 12, 10, 14), ("or", TOP, 0, TOP),
                ("xor", 12, 10, 6), ("xor", TOP, TOP, 0), ("shift", 12, 2, 3), ("shift", TOP, 31, 1),
                ("shift", TOP, 32, TOP), ("shift", TOP, 33, TOP // 2), ("shift", TOP, 0, TOP), ("shift", 5, TOP, 0),
                ("shift", TOP, TOP, 1)):
            self.assertEqual(reckoned(sign, one, other), number, (sign, one, other))

    def test_results_stay_within_bounds(self):
        for sign in SIGNS:
            for one in NUMBERS:
                for other in NUMBERS:
                    self.assertTrue(0 <= reckoned(sign, one, other) <= TOP)

    def test_tests_at_the_edges(self):
        for one in NUMBERS:
            for other in NUMBERS:
                self.assertIs(holds("==", one, other), one == other)
                self.assertIs(holds("!=", one, other), one != other)
                self.assertIs(holds("<", one, other), one < other)
                self.assertIs(holds("<=", one, other), one <= other)


class CheckTest(FilterCase):
    def test_64_rows_go_and_65_do_not(self):
        self.assertIsNone(check_rows((("set", 0, 1),) * 63 + (("accept",),)))
        self.assertEqual(self.fault(check_rows, (("set", 0, 1),) * 64 + (("accept",),)), ("no rows", 0))

    def test_no_rows(self):
        for rows in ((), [], [("accept",)], None, "accept"):
            self.assertEqual(self.fault(check_rows, rows), ("no rows", 0))

    def test_each_kind_of_row_goes(self):
        rows = [("set", 7, TOP), ("set", 0, 0), ("move", 0, 7), ("size", 3), ("need", TOP, 30), ("load", 1, TOP, 4),
                ("load", 1, 0, 1), ("at", 1, 2, 2), ("jump", 9), ("get", 7, 7), ("put", 0, 7)]
        rows.extend(("op", sign, 0, 7) for sign in SIGNS)
        rows.extend(("if", sign, 0, 7, 29) for sign in TESTS)
        rows.extend([("drop",)] * (30 - len(rows)) + [("accept",)])
        self.assertIsNone(check_rows(tuple(rows)))

    def test_rows_of_other_words_sizes_and_parts(self):
        for row in ((), ("go",), ("accept", 1), ("drop", 0), ("set", 1), ("set", 1, 2, 3), ("set", 8, 1), ("set", -1, 1),
                    ("set", 1, -1), ("set", 1, TOP + 1), ("set", True, 1), ("set", 1, False), ("set", "r1", 1),
                    ("move", 1, 8), ("move", 8, 1), ("op", "/", 1, 2), ("op", "==", 1, 2), ("op", 1, 2, 3),
                    ("op", "+", 8, 1), ("op", "+", 1, 8), ("size", 8), ("need", -1, 2), ("need", TOP + 1, 2),
                    ("load", 1, 0, 3), ("load", 1, 0, 0), ("load", 1, 0, 8), ("load", 1, -1, 1), ("load", 8, 0, 1),
                    ("load", 1, TOP + 1, 1), ("at", 8, 1, 1), ("at", 1, 8, 1), ("at", 1, 1, 3), ("if", "+", 1, 2, 2),
                    ("if", ">", 1, 2, 2), ("if", "<", 8, 2, 2), ("if", "<", 1, 8, 2), ("if", "<", 1, 2), ("jump",),
                    ("jump", "p2"), ("get", 1, 8), ("get", 8, 1), ("get", 1, -1), ("put", 8, 1), ("put", 1, 8),
                    ["accept"], "accept", 5, None):
            self.assertEqual(self.fault(check_rows, (("size", 1), row, ("accept",))), ("no row", 1), row)

    def test_jumps_lead_to_later_rows_alone(self):
        for place in (-1, 0, 1, 4, 5, 99):
            for row in (("jump", place), ("need", 4, place), ("if", "<", 0, 0, place)):
                rows = (("set", 0, 1), row, ("drop",), ("accept",))
                self.assertEqual(self.fault(check_rows, rows), ("jump", 1))
        for place in (2, 3):
            for row in (("jump", place), ("need", 4, place), ("if", "<", 0, 0, place)):
                self.assertIsNone(check_rows((("set", 0, 1), row, ("drop",), ("accept",))))

    def test_the_first_row_that_is_wrong_is_told(self):
        self.assertEqual(self.fault(check_rows, (("set", 0, 1), ("set", 9, 1), ("go",), ("accept",))), ("no row", 1))


class RunTest(FilterCase):
    def test_words_and_steps(self):
        self.assertEqual(told([("accept",)]), ("accept", 1))
        self.assertEqual(told([("drop",)]), ("drop", 1))
        self.assertEqual(told([("set", 1, 5), ("size", 2), ("drop",), ("accept",)]), ("drop", 3))
        self.assertEqual(told([("jump", 2), ("drop",), ("accept",)]), ("accept", 2))
        self.assertEqual(told([("set", 1, 5)] * 63 + [("accept",)]), ("accept", 64))

    def test_set_and_move(self):
        self.assertEqual(worth([("set", 1, TOP)]), TOP)
        self.assertEqual(worth([("set", 2, 9), ("move", 1, 2), ("set", 2, 4)]), 9)

    def test_ops_put_the_result_into_the_first_register(self):
        for sign in SIGNS:
            for one, other in ((12, 10), (TOP, 33), (3, 5), (TOP, TOP)):
                self.assertEqual(worth([("set", 1, one), ("set", 2, other), ("op", sign, 1, 2)]),
                                 reckoned(sign, one, other))
        self.assertEqual(worth([("set", 1, 7), ("op", "*", 1, 1)]), 49)
        self.assertEqual(worth([("set", 1, 3), ("set", 2, 10), ("op", "-", 2, 1), ("move", 1, 2)]), 7)

    def test_size(self):
        for many in (0, 1, 300, 4000):
            self.assertEqual(worth([("size", 1)], (5,) * many), many)

    def test_need_goes_on_if_so_many_bytes_are_there(self):
        rows = [("need", 3, 2), ("accept",), ("drop",)]
        self.assertEqual([told(rows, (1,) * many) for many in (0, 2, 3, 4)],
                         [("drop", 2), ("drop", 2), ("accept", 2), ("accept", 2)])
        self.assertEqual(told([("need", 0, 2), ("accept",), ("drop",)]), ("accept", 2))

    def test_loads_of_1_2_and_4_bytes(self):
        data = (1, 2, 3, 4, 255)
        self.assertEqual([worth([("load", 1, place, 1)], data) for place in range(5)], [1, 2, 3, 4, 255])
        self.assertEqual([worth([("load", 1, place, 2)], data) for place in range(4)], [258, 515, 772, 1279])
        self.assertEqual([worth([("load", 1, place, 4)], data) for place in range(2)], [16909060, 33752319])
        self.assertEqual(worth([("load", 1, 0, 4)], (255,) * 4), TOP)

    def test_loads_beyond_the_end(self):
        for many in (1, 2, 4):
            for size in range(many, 6):
                self.assertEqual(told([("load", 1, size - many, many), ("accept",)], (9,) * size), ("accept", 2))
            for size in range(6):
                for place in (max(0, size - many + 1), size, size + 1, TOP):
                    rows = (("size", 0), ("load", 1, place, many), ("accept",))
                    self.assertEqual(self.fault(run_filter, rows, (9,) * size, [0] * 8), ("outside", 1))

    def test_ats_take_the_place_from_a_register(self):
        data = (1, 2, 3, 4, 255)
        for many, place, number in ((1, 4, 255), (1, 0, 1), (2, 3, 1279), (4, 1, 33752319)):
            self.assertEqual(worth([("set", 3, place), ("at", 1, 3, many)], data), number)
            self.assertEqual(worth([("set", 1, place), ("at", 1, 1, many)], data), number)

    def test_ats_beyond_the_end(self):
        for many, place in ((1, 5), (2, 4), (4, 2), (1, TOP), (4, TOP)):
            rows = (("set", 3, place), ("at", 1, 3, many), ("accept",))
            self.assertEqual(self.fault(run_filter, rows, (9,) * 5, [0] * 8), ("outside", 1))

    def test_ifs_jump_where_the_test_holds(self):
        for sign in TESTS:
            for one in (0, 5, TOP):
                for other in (0, 5, TOP):
                    rows = [("set", 1, one), ("set", 2, other), ("if", sign, 1, 2, 4), ("drop",), ("accept",)]
                    self.assertEqual(told(rows), ("accept" if holds(sign, one, other) else "drop", 4))

    def test_registers_are_set_anew_for_each_packet(self):
        rows = (("need", 1, 2), ("set", 1, 5), ("move", 2, 1), ("accept",))
        cells = [0] * 8
        self.assertEqual(run_filter(rows, (1,), cells), ("accept", 4))
        self.assertEqual(self.fault(run_filter, rows, (), cells), ("unset", 2))

    def test_cells_keep_their_numbers_from_packet_to_packet(self):
        rows = (("get", 1, 3), ("set", 2, 1), ("op", "+", 1, 2), ("put", 3, 1), ("accept",))
        cells = [0, 0, 0, TOP - 1, 0, 0, 0, 8]
        for number in (TOP, 0, 1):
            self.assertEqual(run_filter(rows, (), cells), ("accept", 5))
            self.assertEqual(cells, [0, 0, 0, number, 0, 0, 0, 8])

    def test_what_was_put_before_a_filter_went_astray_stays(self):
        for astray in (("load", 1, 0, 1), ("move", 1, 5), ("put", 2, 5)):
            cells = [1, 2, 3, 4, 5, 6, 7, 8]
            rows = (("set", 4, 99), ("put", 2, 4), astray, ("put", 0, 4), ("accept",))
            with self.assertRaises(FilterError):
                run_filter(rows, (), cells)
            self.assertEqual(cells, [1, 2, 99, 4, 5, 6, 7, 8])


class AstrayTest(FilterCase):
    def test_registers_that_are_not_set(self):
        for row in (("move", 1, 2), ("op", "+", 1, 2), ("at", 1, 2, 1), ("if", "==", 2, 2, 3), ("put", 1, 2)):
            self.assertEqual(self.fault(run_filter, (("set", 3, 1), row, ("drop",), ("accept",)), (), [0] * 8),
                             ("unset", 1), row)
        for rows in ((("set", 1, 1), ("op", "+", 1, 2), ("accept",)), (("set", 2, 1), ("op", "+", 1, 2), ("accept",)),
                     (("set", 1, 1), ("if", "<", 1, 2, 2), ("accept",)), (("set", 2, 1), ("if", "<", 1, 2, 2), ("accept",))):
            self.assertEqual(self.fault(run_filter, rows, (), [0] * 8), ("unset", 1), rows)

    def test_rows_that_set_a_register_need_not_find_it_set(self):
        for row in (("set", 1, 2), ("size", 1), ("load", 1, 0, 1), ("get", 1, 0)):
            self.assertEqual(told([row, ("move", 2, 1), ("accept",)], (5,)), ("accept", 3))

    def test_unset_comes_before_outside(self):
        self.assertEqual(self.fault(run_filter, (("at", 1, 2, 4), ("accept",)), (), [0] * 8), ("unset", 0))

    def test_behind_the_last_row_there_is_no_end(self):
        self.assertEqual(self.fault(run_filter, (("set", 1, 2),), (), [0] * 8), ("no end", 1))
        self.assertEqual(self.fault(run_filter, (("need", 2, 2), ("accept",), ("size", 1)), (), [0] * 8), ("no end", 3))
        self.assertEqual(self.fault(run_filter, (("set", 1, 2),) * 64, (), [0] * 8), ("no end", 64))

    def test_rows_that_are_no_filter_are_not_run(self):
        cells = [0] * 8
        put = (("set", 1, 9), ("put", 0, 1))
        self.assertEqual(self.fault(run_filter, (), (), cells), ("no rows", 0))
        self.assertEqual(self.fault(run_filter, put + (("go",),), (), cells), ("no row", 2))
        self.assertEqual(self.fault(run_filter, put + (("jump", 0), ("accept",)), (), cells), ("jump", 2))
        self.assertEqual(cells, [0] * 8)

    def test_any_rows_end_with_a_word_or_go_astray(self):
        chance = random.Random(13)
        words = []
        for _ in range(2000):
            many = chance.randrange(2, 12)
            rows = tuple(self.any_row(chance, number, many) for number in range(many))
            cells = [0] * 8
            try:
                word, steps = run_filter(rows, tuple(range(chance.randrange(9))), cells)
                self.assertTrue(1 <= steps <= many)
            except FilterError as error:
                word = error.word
                self.assertTrue(0 <= error.row <= many)
            self.assertTrue(all(0 <= number <= TOP for number in cells))
            words.append(word)
        self.assertEqual(sorted(set(words)), ["accept", "drop", "no end", "outside", "unset"])

    def any_row(self, chance, number, many):
        one, other, cell = chance.randrange(8), chance.randrange(3), chance.randrange(8)
        place = chance.randrange(number + 1, many) if number + 1 < many else None
        rows = [("set", other, chance.choice(NUMBERS)), ("move", other, other), ("op", chance.choice(SIGNS), other, other),
                ("size", one), ("load", one, chance.randrange(9), chance.choice((1, 2, 4))),
                ("at", one, other, chance.choice((1, 2, 4))), ("get", one, cell), ("put", cell, other), ("accept",),
                ("drop",)]
        if place is not None:
            rows.extend([("need", chance.randrange(9), place), ("jump", place),
                         ("if", chance.choice(TESTS), other, other, place)] * 2)
        return chance.choice(rows)


if __name__ == "__main__":
    unittest.main()
