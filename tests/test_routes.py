import random
import unittest

from wirestack.errors import RouteError
from wirestack.routes import Routes, Row, read_vector, vector_bytes


def distances_from(begin, links):
    found = {begin: 0}
    row = [begin]
    for one in row:
        for pair in links:
            if one in pair:
                other = pair[0] + pair[1] - one
                if other not in found:
                    found[other] = found[one] + 1
                    row.append(other)
    return found


def tell_all(tables, links, chance):
    ways = [way for pair in links for way in (pair, pair[::-1])]
    chance.shuffle(ways)
    for one, other in ways:
        tables[other].hear(one, read_vector(vector_bytes(tables[one].vector(other))))


class NetTest(unittest.TestCase):
    def check_net(self, many, links, chance):
        tables = {address: Routes(address) for address in range(1, many + 1)}
        for _ in range(many + 1):
            tell_all(tables, links, chance)
        for address, table in tables.items():
            told = distances_from(address, links)
            for target in range(1, many + 1):
                self.assertEqual(table.distance_to(target), told.get(target, 16))
                if target != address and target in told:
                    step = table.next_hop(target)
                    self.assertIn(tuple(sorted((address, step))), links)
                    self.assertEqual(tables[step].distance_to(target), told[target] - 1)
            self.assertEqual(table.shown(), tuple((target, table.next_hop(target), told[target])
                                                  for target in sorted(told) if target != address))

    def test_ways_are_learnt_in_any_order(self):
        chance = random.Random(8)
        for many in range(2, 11):
            for _ in range(5):
                links = [(one, other) for one in range(1, many + 1) for other in range(one + 1, many + 1)
                         if other == one + 1 or chance.random() < 0.15]
                self.check_net(many, links, chance)

    def test_a_net_in_two_pieces(self):
        self.check_net(6, [(1, 2), (2, 3), (4, 5), (5, 6)], random.Random(9))

    def test_a_row_of_routers_reaches_15_links_far(self):
        self.check_net(16, [(one, one + 1) for one in range(1, 16)], random.Random(10))
        links = [(one, one + 1) for one in range(1, 18)]
        tables = {address: Routes(address) for address in range(1, 19)}
        for _ in range(20):
            tell_all(tables, links, random.Random(11))
        self.assertEqual((tables[1].distance_to(16), tables[1].distance_to(17)), (15, 16))
        with self.assertRaises(RouteError):
            tables[1].next_hop(17)

    def test_lost_links_are_forgotten_and_new_ways_found(self):
        chance = random.Random(12)
        links = [(1, 2), (2, 3), (3, 4), (1, 4)]
        tables = {address: Routes(address) for address in range(1, 5)}
        for _ in range(5):
            tell_all(tables, links, chance)
        self.assertEqual(tables[1].distance_to(4), 1)
        links = links[:3]
        for _ in range(60):
            for table in tables.values():
                table.tick()
            tell_all(tables, links, chance)
        self.assertEqual([tables[1].distance_to(target) for target in (1, 2, 3, 4)], [0, 1, 2, 3])
        self.assertEqual(tables[1].next_hop(4), 2)


class TellTest(unittest.TestCase):
    def test_the_own_address_is_told_with_0(self):
        self.assertEqual(Routes(5).vector(1), ((5, 0),))

    def test_all_rows_are_told_ascending(self):
        table = Routes(5)
        table.hear(2, ((9, 3), (2, 0)))
        table.hear(7, ((7, 0), (1, 1), (8, 14)))
        table.lose(7)
        table.hear(7, ((1, 2),))
        self.assertEqual(table.vector(3), ((1, 3), (2, 1), (5, 0), (7, 16), (8, 16), (9, 4)))

    def test_rows_that_lead_by_a_neighbour_are_told_it_as_16(self):
        table = Routes(5)
        table.hear(2, ((9, 3), (2, 0)))
        table.hear(7, ((7, 0), (1, 1)))
        self.assertEqual(table.vector(2), ((1, 2), (2, 16), (5, 0), (7, 1), (9, 16)))
        self.assertEqual(table.vector(7), ((1, 16), (2, 1), (5, 0), (7, 16), (9, 4)))


class HearTest(unittest.TestCase):
    def setUp(self):
        self.table = Routes(1)
        self.assertTrue(self.table.hear(2, ((9, 4),)))

    def way(self, target=9):
        return self.table.rows[target].shown()

    def test_a_row_counts_one_link_more(self):
        self.assertEqual(self.way(), (2, 5))
        self.assertEqual((self.table.distance_to(9), self.table.next_hop(9)), (5, 2))

    def test_a_nearer_row_replaces_the_own_one(self):
        self.assertTrue(self.table.hear(3, ((9, 3),)))
        self.assertEqual(self.way(), (3, 4))

    def test_a_row_as_far_or_farther_does_not(self):
        for told in (4, 5, 15, 16):
            self.assertFalse(self.table.hear(3, ((9, told),)))
            self.assertEqual(self.way(), (2, 5))

    def test_a_row_of_the_rows_neighbour_does_at_each_distance(self):
        for told, distance in ((7, 8), (2, 3), (14, 15), (15, 16), (3, 4), (16, 16)):
            self.assertTrue(self.table.hear(2, ((9, told),)))
            self.assertEqual(self.way(), (2, distance))

    def test_the_same_row_once_more_changes_nothing(self):
        self.assertFalse(self.table.hear(2, ((9, 4),)))
        self.assertFalse(self.table.hear(2, ()))

    def test_a_new_row_must_be_below_16(self):
        self.assertTrue(self.table.hear(2, ((8, 14),)))
        self.assertEqual(self.table.distance_to(8), 15)
        for told in (15, 16):
            self.assertFalse(self.table.hear(2, ((7, told),)))
            self.assertNotIn(7, self.table.rows)
        self.assertEqual(self.table.distance_to(7), 16)

    def test_any_way_is_nearer_than_one_that_is_too_far(self):
        self.table.hear(2, ((9, 16),))
        self.assertFalse(self.table.hear(3, ((9, 15),)))
        self.assertTrue(self.table.hear(3, ((9, 14),)))
        self.assertEqual(self.way(), (3, 15))

    def test_several_rows_at_once(self):
        self.assertTrue(self.table.hear(3, ((3, 0), (9, 15), (20, 2))))
        self.assertEqual(self.table.shown(), ((3, 3, 1), (9, 2, 5), (20, 3, 3)))

    def test_the_own_address_stays_0(self):
        self.table.hear(2, ((1, 3), (9, 4)))
        self.assertEqual(self.table.distance_to(1), 0)
        self.assertEqual(self.table.vector(7).count((1, 0)), 1)
        self.assertEqual([row[0] for row in self.table.vector(7)], [1, 9])


class AgeTest(unittest.TestCase):
    def aged(self, ticks):
        table = Routes(1)
        table.hear(2, ((9, 4),))
        for _ in range(ticks):
            table.tick()
        return table

    def test_a_way_is_known_for_11_ticks_without_news(self):
        table = self.aged(11)
        self.assertEqual((table.distance_to(9), table.next_hop(9), table.rows[9].age), (5, 2, 11))
        self.assertEqual(table.shown(), ((9, 2, 5),))

    def test_it_is_too_far_from_12_on(self):
        for ticks in (12, 13, 23):
            table = self.aged(ticks)
            self.assertEqual(table.distance_to(9), 16)
            with self.assertRaises(RouteError):
                table.next_hop(9)
            self.assertEqual((table.shown(), table.vector(3)), ((), ((1, 0), (9, 16))))
            self.assertIn(9, table.rows)

    def test_it_is_dropped_at_24(self):
        table = self.aged(24)
        self.assertEqual((table.rows, table.vector(3), table.distance_to(9)), ({}, ((1, 0),), 16))

    def test_news_begin_the_age_anew(self):
        table = self.aged(11)
        table.hear(2, ((9, 4),))
        for _ in range(11):
            table.tick()
        self.assertEqual(table.distance_to(9), 5)
        table.tick()
        self.assertEqual(table.distance_to(9), 16)
        table.hear(3, ((9, 14),))
        self.assertEqual((table.rows[9].age, table.distance_to(9)), (0, 15))

    def test_that_it_is_too_far_is_no_news(self):
        table = self.aged(5)
        for _ in range(19):
            self.assertIn(9, table.rows)
            table.hear(2, ((9, 16),))
            table.tick()
        self.assertEqual(table.rows, {})

    def test_what_others_tell_of_a_farther_way_is_no_news(self):
        table = self.aged(11)
        table.hear(3, ((9, 5),))
        table.tick()
        self.assertEqual(table.distance_to(9), 16)


class LoseTest(unittest.TestCase):
    def test_ways_by_a_lost_neighbour_are_too_far(self):
        table = Routes(1)
        table.hear(2, ((2, 0), (9, 4)))
        table.hear(3, ((3, 0), (8, 1)))
        table.lose(2)
        self.assertEqual(table.shown(), ((3, 3, 1), (8, 3, 2)))
        self.assertEqual((table.distance_to(2), table.distance_to(9)), (16, 16))
        self.assertEqual(table.vector(4), ((1, 0), (2, 16), (3, 1), (8, 2), (9, 16)))
        table.lose(77)
        self.assertEqual(table.shown(), ((3, 3, 1), (8, 3, 2)))

    def test_a_lost_way_is_learnt_again(self):
        table = Routes(1)
        table.hear(2, ((9, 4),))
        table.lose(2)
        self.assertTrue(table.hear(2, ((9, 4),)))
        self.assertEqual(table.next_hop(9), 2)

    def test_a_way_that_is_not_known(self):
        table = Routes(1)
        for target in (9, 1):
            with self.assertRaises(RouteError):
                table.next_hop(target)
        self.assertEqual((table.address, table.rows, table.distance_to(9), table.distance_to(1)), (1, {}, 16, 0))
        self.assertEqual(table.shown(), ())

    def test_rows_show_neighbour_and_distance(self):
        row = Row(4, 7, 3)
        self.assertEqual((row.neighbour, row.distance, row.age, row.shown()), (4, 7, 3, (4, 7)))


class VectorBytesTest(unittest.TestCase):
    def test_rows_reckoned_by_hand(self):
        self.assertEqual(vector_bytes(()), (0,))
        self.assertEqual(vector_bytes(((1, 0), (258, 16))), (2, 0, 1, 0, 1, 2, 16))

    def test_rows_come_back(self):
        for vector in ((), ((1, 0),), ((1, 16), (2, 3), (65535, 15)), tuple((n, n % 17) for n in range(1, 300))):
            self.assertEqual(read_vector(vector_bytes(vector)), vector)

    def test_bytes_that_are_cut_or_longer_are_refused(self):
        data = vector_bytes(((1, 0), (2, 16), (300, 4)))
        for many in range(len(data)):
            with self.assertRaises(RouteError):
                read_vector(data[:many])
        for more in ((0,), (0, 9, 1), (1, 2, 3, 4)):
            with self.assertRaises(RouteError):
                read_vector(data + more)

    def test_rows_that_do_not_ascend_are_refused(self):
        for data in ((2, 0, 5, 1, 0, 4, 1), (2, 0, 5, 1, 0, 5, 1), (2, 0, 5, 1, 0, 5, 2), (3, 0, 1, 1, 0, 3, 1, 0, 2, 1),
                     (128, 0), (255, 255, 255, 255, 15, 0, 1, 1)):
            with self.assertRaises(RouteError):
                read_vector(data)


if __name__ == "__main__":
    unittest.main()
