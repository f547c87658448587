import random
import unittest

from wirestack.balance import Balancer, Server
from wirestack.errors import HostError
from wirestack.ring import point_of


def rest(balancer, name, time):
    """Let a server rest from a time on."""
    for _ in range(3):
        balancer.note_end(name, False, time)


class BuildTest(unittest.TestCase):
    def test_fields(self):
        server = Server("a", 3)
        self.assertEqual((server.name, server.weight, server.ahead, server.fails, server.rests_until, server.load),
                         ("a", 3, 0, 0, 0, 0))

    def test_servers_none_at_all_and_told_twice(self):
        for rows in ([], [("a", 1), ("b", 1), ("a", 2)]):
            with self.assertRaises(HostError):
                Balancer(rows)

    def test_weights_are_from_1_to_100(self):
        for weight in (1, 100):
            self.assertEqual(Balancer([("a", weight)]).server("a").weight, weight)
        for weight in (0, 101, -1):
            with self.assertRaises(HostError):
                Balancer([("b", 1), ("a", weight)])

    def test_unknown_servers(self):
        balancer = Balancer([("a", 1)])
        with self.assertRaises(HostError):
            balancer.server("b")
        with self.assertRaises(HostError):
            balancer.note_end("b", True, 0)


class TurnTest(unittest.TestCase):
    def turns(self, balancer, many, time=0):
        return "".join([balancer.next_by_turn(time) for _ in range(many)])

    def test_equal_weights(self):
        self.assertEqual(self.turns(Balancer([("b", 7), ("a", 7), ("c", 7)]), 6), "bacbac")

    def test_different_weights(self):
        balancer = Balancer([("a", 5), ("b", 1), ("c", 1)])
        self.assertEqual(self.turns(balancer, 7), "aabacaa")
        self.assertEqual([balancer.server(name).ahead for name in "abc"], [0, 0, 0])

    def test_each_gets_its_share_in_a_whole_round(self):
        chance = random.Random(6)
        for _ in range(50):
            rows = [(name, chance.randrange(1, 20)) for name in "abcd"[:chance.randrange(1, 5)]]
            balancer = Balancer(rows)
            total = sum(weight for _, weight in rows)
            for _ in range(2):
                found = self.turns(balancer, total)
                self.assertEqual([found.count(name) for name, _ in rows], [weight for _, weight in rows])
                self.assertEqual([balancer.server(name).ahead for name, _ in rows], [0] * len(rows))

    def test_servers_that_rest_neither_get_nor_go(self):
        balancer = Balancer([("a", 2), ("b", 1), ("c", 1)])
        self.assertEqual(self.turns(balancer, 1), "a")
        self.assertEqual([balancer.server(name).ahead for name in "abc"], [-2, 1, 1])
        rest(balancer, "b", 0)
        self.assertEqual(self.turns(balancer, 3), "caa")
        self.assertEqual([balancer.server(name).ahead for name in "abc"], [-2, 1, 1])
        self.assertEqual(self.turns(balancer, 1, 20), "b")


class LoadTest(unittest.TestCase):
    def test_the_least_load_by_weight_and_the_first_of_equals(self):
        balancer = Balancer([("a", 1), ("b", 2), ("c", 3)])
        self.assertEqual("".join([balancer.next_by_load(0) for _ in range(9)]), "abccbcabc")
        self.assertEqual([balancer.server(name).load for name in "abc"], [2, 3, 4])

    def test_ends_of_work(self):
        balancer = Balancer([("a", 1), ("b", 1)])
        for name in "ab":
            self.assertEqual(balancer.next_by_load(0), name)
        balancer.note_end("b", True, 0)
        self.assertEqual(balancer.next_by_load(0), "b")
        balancer.note_end("a", False, 0)
        self.assertEqual(balancer.server("a").load, 0)
        for good in (True, False):
            balancer.note_end("a", good, 0)
            self.assertEqual(balancer.server("a").load, 0)
        self.assertEqual([balancer.next_by_load(0) for _ in range(5)], ["a", "a", "b", "a", "b"])
        for many in (2, 1, 0, 0):
            balancer.note_end("a", True, 0)
            self.assertEqual((balancer.server("a").load, balancer.server("b").load), (many, 3))

    def test_servers_that_rest_get_no_work(self):
        balancer = Balancer([("a", 1), ("b", 1)])
        rest(balancer, "a", 0)
        self.assertEqual([balancer.next_by_load(time) for time in (0, 19, 20)], ["b", "b", "a"])


class RestTest(unittest.TestCase):
    def names(self, balancer, time):
        found = balancer.healthy(time)
        self.assertIsInstance(found, list)
        return "".join([server.name for server in found])

    def test_three_failures_in_a_row_let_a_server_rest_for_20_ticks(self):
        balancer = Balancer([("a", 1), ("b", 1)])
        for many in (1, 2):
            balancer.note_end("a", False, 5)
            self.assertEqual((balancer.server("a").fails, balancer.server("a").rests_until), (many, 0))
        balancer.note_end("a", False, 7)
        self.assertEqual((balancer.server("a").fails, balancer.server("a").rests_until), (0, 27))
        self.assertEqual([self.names(balancer, time) for time in (7, 26, 27)], ["b", "b", "ab"])

    def test_a_good_end_between(self):
        balancer = Balancer([("a", 1), ("b", 1)])
        for good in (False, False, True, False, False):
            balancer.note_end("a", good, 5)
        self.assertEqual((balancer.server("a").fails, self.names(balancer, 5)), (2, "ab"))

    def test_failures_are_counted_anew(self):
        balancer = Balancer([("a", 1), ("b", 1)])
        rest(balancer, "a", 0)
        for many in (1, 2):
            balancer.note_end("a", False, 30)
        self.assertEqual(self.names(balancer, 30), "ab")
        balancer.note_end("a", False, 31)
        self.assertEqual([self.names(balancer, time) for time in (31, 50, 51)], ["b", "b", "ab"])

    def test_all_servers_at_rest(self):
        balancer = Balancer([("a", 1), ("b", 1)])
        rest(balancer, "a", 0)
        rest(balancer, "b", 5)
        self.assertEqual([self.names(balancer, time) for time in (5, 19, 20, 24, 25)], ["ab", "ab", "a", "a", "ab"])
        self.assertEqual(balancer.next_by_turn(6), "a")


class StickyTest(unittest.TestCase):
    def test_points_by_weight(self):
        rows = [("a", 3), ("b", 1), ("c", 2)]
        balancer = Balancer(rows)
        for number in range(60):
            key = f"key{number}"
            points = {name: point_of(f"{name}/{key}") * weight for name, weight in rows}
            best = max(points.values())
            self.assertEqual(balancer.sticky(key, 0), max(name for name in points if points[name] == best))

    def test_keys_stay_while_the_same_servers_are_healthy(self):
        balancer = Balancer([("a", 1), ("b", 1), ("c", 1)])
        keys = [f"key{number}" for number in range(60)]
        before = {key: balancer.sticky(key, 0) for key in keys}
        self.assertEqual(set(before.values()), set("abc"))
        for key in keys:
            balancer.next_by_turn(0)
            balancer.next_by_load(0)
            self.assertEqual(balancer.sticky(key, 0), before[key])
        rest(balancer, "b", 0)
        for key in keys:
            # Only those of the server that rests go elsewhere, and they come back.
            self.assertEqual(balancer.sticky(key, 19) == before[key], before[key] != "b")
            self.assertEqual(balancer.sticky(key, 20), before[key])

    def test_of_equal_points_the_later_name_counts(self):
        self.assertEqual((point_of("a/14280") * 26, point_of("b/14280") * 7), (959686, 959686))
        for rows in ([("a", 26), ("b", 7)], [("b", 7), ("a", 26)]):
            self.assertEqual(Balancer(rows).sticky("14280", 0), "b")


if __name__ == "__main__":
    unittest.main()
