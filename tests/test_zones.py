import unittest

from wirestack.errors import HostError
from wirestack.zones import Resolver, Zone, is_below, parts_of_name


class NameTest(unittest.TestCase):
    def test_parts_stand_the_last_one_first(self):
        self.assertEqual(parts_of_name("a.b-1.c"), ("c", "b-1", "a"))
        self.assertEqual(parts_of_name("x"), ("x",))
        self.assertEqual(parts_of_name(""), ())

    def test_bounds_of_names(self):
        self.assertEqual(len(parts_of_name(".".join("abcdefgh"))), 8)
        self.assertEqual(parts_of_name("a" * 20 + ".b"), ("b", "a" * 20))
        for name in (".".join("abcdefghi"), "a" * 21, "b." + "a" * 21, ".", "a.", ".a", "a..b", "A", "a_b", "a b", "a@b", "a\n"):
            with self.assertRaises(HostError):
                parts_of_name(name)

    def test_names_below_a_zone(self):
        for name, zone in (("a.b", "b"), ("b", "b"), ("x.a.b", "b"), ("b", ""), ("", ""), ("x.a.b", "a.b")):
            self.assertIs(is_below(name, zone), True, (name, zone))
        for name, zone in (("b", "a.b"), ("ab", "b"), ("b.a", "b"), ("", "b"), ("x.ab", "a.b")):
            self.assertIs(is_below(name, zone), False, (name, zone))
        for name, zone in (("A", "b"), ("b", "B")):
            with self.assertRaises(HostError):
                is_below(name, zone)


class ZoneTest(unittest.TestCase):
    def test_fields(self):
        zone = Zone("a.b", 7)
        self.assertEqual((zone.name, zone.keeps, zone.rows, zone.below), ("a.b", 7, {}, {}))

    def test_zones_keep_for_0_to_999_ticks(self):
        for keep in (0, 999):
            self.assertEqual(Zone("", keep).answer("x"), ("none", keep))
        for keep in (-1, 1000):
            with self.assertRaises(HostError):
                Zone("a", keep)
        with self.assertRaises(HostError):
            Zone("A", 5)

    def test_each_kind_of_answer(self):
        zone = Zone("b", 7)
        zone.put("a.b", ("at", 5))
        zone.put("c.b", ("as", "x.y"))
        zone.put("b", ("at", 65535))
        zone.hand_on("d.b", 9)
        for name, found in (("a.b", ("at", 5, 7)), ("c.b", ("as", "x.y", 7)), ("b", ("at", 65535, 7)), ("d.b", ("ask", "d.b", 9, 7)),
                            ("e.d.b", ("ask", "d.b", 9, 7)), ("e.b", ("none", 7)), ("x.a.b", ("none", 7)), ("c", ("elsewhere",)),
                            ("", ("elsewhere",)), ("ab", ("elsewhere",))):
            self.assertEqual(zone.answer(name), found, name)
        with self.assertRaises(HostError):
            zone.answer("A.b")
        self.assertEqual(zone.rows, {"a.b": ("at", 5), "c.b": ("as", "x.y"), "b": ("at", 65535)})
        self.assertEqual(zone.below, {"d.b": 9})

    def test_what_cannot_be_told(self):
        zone = Zone("b", 7)
        zone.hand_on("d.b", 9)
        for name, row in (("c", ("at", 5)), ("", ("at", 5)), ("d.b", ("at", 5)), ("e.d.b", ("as", "b")), ("a.b", ("at", 0)),
                          ("a.b", ("at", 65536)), ("a.b", ("to", 5)), ("a.b", ("as", "A")), ("A.b", ("at", 5))):
            with self.assertRaises(HostError):
                zone.put(name, row)
        self.assertEqual(zone.rows, {})
        for address in (1, 65535):
            zone.put("a.b", ("at", address))
            self.assertEqual(zone.answer("a.b"), ("at", address, 7))

    def test_a_part_that_is_handed_on_takes_its_rows(self):
        zone = Zone("", 7)
        for name in ("b", "a.b", "x.a.b", "ya.b", "c"):
            zone.put(name, ("at", 5))
        zone.hand_on("a.b", 9)
        self.assertEqual(sorted(zone.rows), ["b", "c", "ya.b"])
        zone.hand_on("a.b", 10)
        self.assertEqual(zone.answer("a.b"), ("ask", "a.b", 10, 7))

    def test_what_cannot_be_handed_on(self):
        zone = Zone("b", 7)
        zone.put("a.b", ("at", 5))
        for name, address in (("b", 9), ("c", 9), ("", 9), ("a.b", 0), ("a.b", 65536), ("A.b", 9)):
            with self.assertRaises(HostError):
                zone.hand_on(name, address)
        self.assertEqual((zone.below, zone.rows), ({}, {"a.b": ("at", 5)}))
        for address in (1, 65535):
            zone.hand_on("a.b", address)

    def test_the_nearest_of_several_zones_below(self):
        for order in (("b", "a.b", "x.a.b"), ("x.a.b", "a.b", "b"), ("a.b", "x.a.b", "b")):
            zone = Zone("", 7)
            for name in order:
                zone.hand_on(name, len(name))
            for name, found in (("b", "b"), ("c.b", "b"), ("a.b", "a.b"), ("y.a.b", "a.b"), ("x.a.b", "x.a.b"), ("z.x.a.b", "x.a.b")):
                self.assertEqual(zone.answer(name), ("ask", found, len(found), 7))


class ResolverTest(unittest.TestCase):
    """Servers: 1 the root, 2 for b, 3 for a.b."""

    def setUp(self):
        self.zones = {1: Zone("", 100), 2: Zone("b", 50), 3: Zone("a.b", 10)}
        self.zones[1].hand_on("b", 2)
        self.zones[2].hand_on("a.b", 3)
        self.zones[1].put("top", ("at", 70))
        self.zones[2].put("y.b", ("at", 71))
        self.zones[3].put("x.a.b", ("at", 72))
        self.seen = []
        self.resolver = Resolver(1, self.ask)

    def ask(self, address, name):
        self.seen.append((address, name))
        return self.zones[address].answer(name)

    def asked(self, name, time):
        """Return what a name leads to, and which servers were asked."""
        self.seen = []
        before = self.resolver.asked
        try:
            found = self.resolver.resolve(name, time)
        except HostError:
            found = "error"
        self.assertEqual(self.resolver.asked - before, len(self.seen))
        return found, [address for address, _ in self.seen]

    def test_fields(self):
        self.assertEqual((self.resolver.rows, self.resolver.asked), ({}, 0))

    def test_names_at_the_root_and_handed_down(self):
        self.assertEqual(self.asked("top", 0), (70, [1]))
        self.assertEqual(self.asked("y.b", 0), (71, [1, 2]))
        self.assertEqual(self.asked("x.a.b", 0), (72, [2, 3]))
        self.assertEqual(self.asked("nothing", 0), (None, [1]))
        self.assertEqual(self.resolver.asked, 6)
        self.setUp()
        self.assertEqual(self.asked("x.a.b", 0), (72, [1, 2, 3]))

    def test_what_is_told_is_kept_until_its_end(self):
        for name, keep, servers in (("top", 100, [1]), ("nothing", 100, [1]), ("none.b", 50, [2]), ("x.a.b", 10, [3])):
            self.setUp()
            found = self.asked(name, 5)[0]
            self.assertEqual(self.asked(name, 5 + keep - 1), (found, []))
            again = self.asked(name, 5 + keep)
            self.assertEqual((again[0], again[1][-1:]), (found, servers))

    def test_servers_are_kept_until_their_end(self):
        self.asked("x.a.b", 0)
        # The root told the server of b for 100 ticks, that one the server of a.b for 50.
        self.assertEqual(self.asked("q.a.b", 49)[1], [3])
        self.assertEqual(self.asked("r.a.b", 50)[1], [2, 3])
        self.assertEqual(self.asked("s.a.b", 99)[1], [3])
        self.assertEqual(self.asked("t.a.b", 100)[1], [1, 2, 3])

    def test_what_is_kept_for_no_tick_is_asked_anew(self):
        self.zones[1].keeps = 0
        self.assertEqual(self.asked("y.b", 4), (71, [1, 2]))
        self.assertEqual(self.asked("y.b", 4), (71, []))
        self.assertEqual(self.asked("z.b", 4), (None, [1, 2]))
        self.assertEqual((self.asked("top", 4), self.asked("top", 4)), ((70, [1]), (70, [1])))

    def test_changes_are_seen_behind_the_end(self):
        self.asked("top", 0)
        self.zones[1].put("top", ("at", 80))
        self.assertEqual((self.asked("top", 99)[0], self.asked("top", 100)[0]), (70, 80))

    def test_other_names_lead_on(self):
        self.zones[1].put("one", ("as", "two.b"))
        self.zones[2].put("two.b", ("as", "x.a.b"))
        self.assertEqual(self.asked("one", 0), (72, [1, 1, 2, 2, 3]))
        self.assertEqual(self.asked("two.b", 9), (72, []))
        self.assertEqual(self.asked("one", 10), (72, [3]))
        self.zones[1].put("void", ("as", "nothing"))
        self.assertEqual(self.asked("void", 0), (None, [1, 1]))

    def test_eight_other_names_and_nine(self):
        for number in range(1, 10):
            self.zones[1].put(f"n{number}", ("as", f"n{number - 1}"))
        self.zones[1].put("n0", ("at", 77))
        self.assertEqual(self.asked("n8", 0)[0], 77)
        self.setUp()
        for number in range(1, 10):
            self.zones[1].put(f"n{number}", ("as", f"n{number - 1}"))
        self.zones[1].put("n0", ("at", 77))
        self.assertEqual(self.asked("n9", 0), ("error", [1] * 9))
        # What was told stays.
        self.assertEqual(self.asked("n8", 0), (77, [1]))

    def test_other_names_in_a_ring(self):
        self.zones[1].put("one", ("as", "two"))
        self.zones[1].put("two", ("as", "one"))
        self.assertEqual(self.asked("one", 0), ("error", [1, 1]))
        self.assertEqual(self.asked("one", 99), ("error", []))
        self.zones[1].put("self", ("as", "self"))
        self.assertEqual(self.asked("self", 0), ("error", [1]))

    def test_a_server_that_hands_to_a_zone_not_below_its_own_is_no_way(self):
        class Wrong:
            def __init__(self, zone):
                self.zone = zone

            def answer(self, name):
                return ("ask", self.zone, 2, 5)

        for zone in ("b", "", "c", "A"):
            self.setUp()
            self.zones[2] = Wrong(zone)
            self.assertEqual(self.asked("y.b", 0), ("error", [1, 2]), zone)
            # The root's answer stays.
            self.assertEqual(self.asked("z.b", 99), ("error", [2]))
            self.zones[2] = Zone("b", 5)
            self.assertEqual(self.asked("z.b", 99), (None, [2]))
        self.zones[1] = Wrong("")
        self.assertEqual(self.asked("c", 0), ("error", [1]))

    def test_a_server_that_knows_nothing_of_a_zone_is_no_way(self):
        self.zones[2] = Zone("c", 5)
        self.assertEqual(self.asked("y.b", 0), ("error", [1, 2]))
        self.assertEqual(self.asked("y.b", 1), ("error", [2]))

    def test_bad_names_are_not_asked_for(self):
        for name in ("A", "a..b", "a" * 21):
            self.assertEqual(self.asked(name, 0), ("error", []))
        self.assertEqual(self.asked("", 0), (None, [1]))


if __name__ == "__main__":
    unittest.main()
