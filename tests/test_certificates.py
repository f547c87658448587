import itertools
import unittest

from wirestack.certificates import Certificate, Trust, covers, issued, mark_of, name_number
from wirestack.errors import SealError
from wirestack.octets import LETTERS
from wirestack.seals import mixed

ROOT_KEY = 500
ROWS = {"x": ("x", 600, "root", 1, 0, 999999, 4), "b.x": ("b.x", 700, "x", 2, 10, 20, 1),
        "a.b.x": ("a.b.x", 800, "b.x", 3, 5, 15, -1)}
KEYS = {"root": ROOT_KEY, "x": 600, "b.x": 700, "a.b.x": 800}


def why(call, *args):
    """Return what the SealError of a call says, the result if it raises none."""
    try:
        return call(*args)
    except SealError as error:
        return str(error)


def chain_of(*changes, trusted="root"):
    """Return the chain of a.b.x, with fields changed: (place, field's place, value)."""
    found = []
    for place, name in enumerate(("a.b.x", "b.x", "x")):
        row = list(ROWS[name])
        mark = None
        for at, field, value in changes:
            if at == place and field == 7:
                mark = value
            elif at == place:
                row[field] = value
        row = tuple(row)
        issuer_key = KEYS["root"] if place == 2 else None
        found.append((row, issuer_key, mark))
    certificates = []
    for place, (row, issuer_key, mark) in enumerate(found):
        key = issuer_key if issuer_key is not None else found[place + 1][0][1]
        certificates.append(Certificate(*row, mark_of(row, key) if mark is None else mark))
    return tuple(certificates)


NAME, KEY, ISSUER, SERIAL, FIRST, LAST, BELOW, MARK = range(8)


class NameTest(unittest.TestCase):
    def test_a_names_number_is_mixed_of_the_places_of_its_signs(self):
        for name in ("a", "b.c", "a-9", "x" * 40, "-"):
            self.assertEqual(name_number(name), mixed(tuple(LETTERS.index(sign) + 1 for sign in name)))
        self.assertNotEqual(name_number("ab"), name_number("ba"))

    def test_names_have_1_to_40_signs(self):
        self.assertEqual(name_number("a" * 40), mixed((LETTERS.index("a") + 1,) * 40))
        for name in ("", "a" * 41, ".", ".a", "a.", "A", "a b", "a_b", "a@b", "a\n"):
            with self.assertRaises(SealError):
                name_number(name)

    def test_a_name_covers_itself_and_what_stands_below(self):
        for name, other in (("b.c", "b.c"), ("b.c", "a.b.c"), ("c", "b.c"), ("c", "a.b.c")):
            self.assertIs(covers(name, other), True)
        for name, other in (("b.c", "c"), ("b.c", "ab.c"), ("c", "bc"), ("a.b.c", "b.c"), ("b", "b.c"), ("b.c", "a.b.cd")):
            self.assertIs(covers(name, other), False)


class IssuedTest(unittest.TestCase):
    ROW = ("a.b", 7, "b", 3, 0, 999999, 0)

    def test_fields(self):
        found = Certificate("a", 1, "b", 2, 3, 4, 5, 6)
        self.assertEqual(found.shown(), ("a", 1, "b", 2, 3, 4, 5, 6))
        self.assertEqual((found.name, found.serial, found.first, found.last, found.below, found.mark), ("a", 2, 3, 4, 5, 6))

    def test_a_mark_is_mixed_of_everything(self):
        found = mixed((9, name_number("a.b"), 7, name_number("b"), 3, 0, 999999, 1, 9))
        self.assertEqual(mark_of(self.ROW, 9), found)
        self.assertEqual(issued(self.ROW, 9).shown(), self.ROW + (found,))

    def test_a_mark_hangs_on_each_part(self):
        changed = [("a.c", 7, "b", 3, 0, 999999, 0), ("a.b", 8, "b", 3, 0, 999999, 0), ("a.b", 7, "c", 3, 0, 999999, 0),
                   ("a.b", 7, "b", 4, 0, 999999, 0), ("a.b", 7, "b", 3, 1, 999999, 0), ("a.b", 7, "b", 3, 0, 999998, 0),
                   ("a.b", 7, "b", 3, 0, 999999, 1)]
        marks = [mark_of(self.ROW, 9), mark_of(self.ROW, 10)] + [mark_of(row, 9) for row in changed]
        self.assertEqual(len(set(marks)), 9)

    def check_row(self, good, **fields):
        names = ("name", "key", "issuer", "serial", "first", "last", "below")
        row = tuple(fields.get(name, self.ROW[place]) for place, name in enumerate(names))
        if good:
            self.assertEqual(issued(row, 9).shown()[:7], row)
        else:
            with self.assertRaises(SealError):
                issued(row, 9)

    def test_bounds(self):
        for key, good in ((0, False), (1, True), (999999999, True), (1000000000, False), (-1, False)):
            self.check_row(good, key=key)
            if not good:
                with self.assertRaises(SealError):
                    issued(self.ROW, key)
        for serial, good in ((-1, False), (0, True), (10 ** 12, True)):
            self.check_row(good, serial=serial)
        for first, last, good in ((0, 0, True), (999999, 999999, True), (-1, 5, False), (5, 4, False), (0, 1000000, False),
                                  (1000000, 1000000, False), (4, 5, True)):
            self.check_row(good, first=first, last=last)
        for below, good in ((-2, False), (-1, True), (0, True), (4, True), (5, False)):
            self.check_row(good, below=below)
        for name, good in (("", False), ("a", True), ("a" * 40, True), ("a" * 41, False), ("a.", False), (".a", False)):
            self.check_row(good, name=name)
            self.check_row(good, issuer=name)


class CheckTest(unittest.TestCase):
    def setUp(self):
        self.trust = Trust()
        self.trust.put("root", ROOT_KEY)

    def says(self, chain, name="a.b.x", time=12):
        return why(self.trust.check, chain, name, time)

    def test_bad_names_and_keys_are_not_trusted(self):
        for name, key in (("", 5), ("a.", 5), ("a" * 41, 5), ("a", 0), ("a", 10 ** 9)):
            with self.assertRaises(SealError):
                self.trust.put(name, key)
        self.trust.put("a" * 40, 1)
        self.trust.put("a", 999999999)

    def test_a_good_chain(self):
        self.assertEqual(self.says(chain_of()), 800)
        self.assertEqual(self.says(list(chain_of())), 800)
        self.assertEqual(self.says(chain_of()[1:], "b.x"), 700)
        self.assertEqual(self.says(chain_of()[2:], "x"), 600)

    def test_chains_of_0_1_5_and_6(self):
        rows = [("x", 600, "root", 1, 0, 9, 4)]
        for depth in range(5):
            name, key = rows[0][:2]
            rows.insert(0, (f"n{depth}.{name}", key + 1, name, 1, 0, 9, 3 - depth))
        keys = [row[1] for row in rows[1:]] + [ROOT_KEY]
        chain = tuple(issued(row, key) for row, key in zip(rows, keys))
        self.assertEqual(self.says((), "x", 5), "no chain")
        self.assertEqual(self.says(chain[5:], chain[5].name, 5), 600)
        self.assertEqual(self.says(chain[1:], chain[1].name, 5), 604)
        self.assertEqual(self.says(chain, chain[0].name, 5), "no chain")

    def test_another_name(self):
        for name in ("b.x", "c.b.x", "aa.b.x", "x", "c.a.b.x"):
            self.assertEqual(self.says(chain_of(), name), "another name")
        # Only one that may issue covers another name than its own.
        self.assertEqual(self.says(chain_of((0, BELOW, 0)), "c.a.b.x"), 800)
        self.assertEqual(self.says(chain_of()[1:], "c.b.x"), 700)
        self.assertEqual(self.says(chain_of()[1:], "d.c.b.x"), 700)
        self.assertEqual(self.says(chain_of()[1:], "cb.x"), "another name")

    def test_the_first_and_the_last_tick(self):
        for time, found in ((9, "not now"), (10, 800), (15, 800), (16, "not now")):
            self.assertEqual(self.says(chain_of(), time=time), found)
        for time, found in ((9, "not now"), (10, 700), (20, 700), (21, "not now")):
            self.assertEqual(self.says(chain_of()[1:], "b.x", time), found)

    def test_taken_back(self):
        for place, (issuer, serial) in enumerate((("b.x", 3), ("x", 2), ("root", 1))):
            self.setUp()
            self.trust.take_back(issuer, serial + 1)
            self.trust.take_back(issuer + "x", serial)
            self.assertEqual(self.says(chain_of()), 800)
            self.trust.take_back(issuer, serial)
            self.assertEqual(self.says(chain_of()), "taken back")
            self.assertEqual(self.says(chain_of()[2:], "x"), "taken back" if place == 2 else 600)

    def test_no_right(self):
        for change, found in (((1, BELOW, -1), "no right"), ((1, BELOW, 0), 800), ((2, BELOW, 0), "no right"), ((2, BELOW, 1), 800),
                              ((2, BELOW, -1), "no right")):
            self.assertEqual(self.says(chain_of(change)), found, change)
        # Another issuer than the next one, and one that does not cover the name.
        self.assertEqual(self.says(chain_of((0, ISSUER, "x"))), "no right")
        self.assertEqual(self.says(chain_of((0, NAME, "a.c.x")), "a.c.x"), "no right")
        self.assertEqual(self.says(chain_of((0, NAME, "ab.x")), "ab.x"), "no right")
        # A certificate may be issued for the issuer's own name.
        self.assertEqual(self.says(chain_of((0, NAME, "b.x")), "b.x"), 800)

    def test_nobody_trusted(self):
        self.assertEqual(self.says(chain_of((2, ISSUER, "boot"))), "nobody trusted")
        self.trust = Trust()
        self.assertEqual(self.says(chain_of()), "nobody trusted")
        self.trust.put("b.x", 700)
        self.assertEqual(self.says(chain_of()[:1]), 800)

    def test_a_wrong_mark(self):
        for place in range(3):
            self.assertEqual(self.says(chain_of((place, MARK, 5))), "a wrong mark")
        self.trust.put("root", ROOT_KEY + 1)
        self.assertEqual(self.says(chain_of()), "a wrong mark")

    def test_the_mark_is_of_each_part(self):
        for place in range(3):
            good = chain_of()
            for field, value in ((KEY, 5), (SERIAL, 9), (FIRST, 6), (LAST, 14), (BELOW, 3)):
                row = list(good[place].shown())
                row[field] = value
                chain = good[:place] + (Certificate(*row),) + good[place + 1:]
                self.assertEqual(self.says(chain), "a wrong mark", (place, field))

    def test_of_two_things_the_first_counts_from_the_first_certificate_on(self):
        self.trust.take_back("gone", 1)
        # Each reason with a change of a row that is wrong for that reason alone, in the order in which they are asked for.
        reasons = (("not now", (FIRST, 13)), ("taken back", (ISSUER, "gone")), ("no right", (ISSUER, "else")),
                   ("a wrong mark", (MARK, 5)))
        for place in (0, 1):
            for (one, change), (other, more) in itertools.combinations(reasons, 2):
                if change[0] != more[0]:
                    found = chain_of((place, *change), (place, *more), (place, SERIAL, 1))
                    self.assertEqual(self.says(found), one, (place, one, other))
        for (one, change), (other, more) in itertools.product(reasons, reasons):
            found = chain_of((0, *change), (1, *more), (0, SERIAL, 1), (1, SERIAL, 1))
            self.assertEqual(self.says(found), one, (one, other))

    def test_trust_is_asked_for_ahead_of_the_mark_and_behind_the_time(self):
        self.assertEqual(self.says(chain_of((2, ISSUER, "boot"), (2, MARK, 5))), "nobody trusted")
        self.assertEqual(self.says(chain_of((2, ISSUER, "boot"), (2, FIRST, 13))), "not now")
        self.assertEqual(self.says(chain_of((2, ISSUER, "boot"), (1, MARK, 5))), "a wrong mark")

    def test_the_name_is_asked_for_first(self):
        self.assertEqual(self.says(chain_of((0, MARK, 5), (0, FIRST, 13)), "q"), "another name")
        self.assertEqual(self.says(chain_of() * 2, "q"), "no chain")


if __name__ == "__main__":
    unittest.main()
