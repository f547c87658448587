import random
import unittest

from wirestack.errors import RouteError
from wirestack.linkmaps import LinkMap, Statement, read_statement, statement_bytes, statement_of
from wirestack.octets import sum_bytes


def map_of(address, rows, serial=1):
    """Return a link map of an address that has heard (or told) what rows tell: links by address."""
    found = LinkMap(address)
    for one, links in rows.items():
        if one == address:
            found.tell(links)
        else:
            found.hear(statement_of(one, serial, links))
    return found


def cheapest(links, start):
    """Return the table of cheapest ways by trying all ways, links being a table of both directions."""
    found = {}
    waiting = [(0, None, start, (start,))]
    while waiting:
        cost, first, at, passed = waiting.pop()
        for (one, other), more in links.items():
            if one == at and other not in passed:
                way = (cost + more, other if first is None else first)
                if other not in found or way < found[other]:
                    found[other] = way
                waiting.append((*way, other, passed + (other,)))
    return found


class StatementTest(unittest.TestCase):
    def test_links_in_any_order_are_told_ascending(self):
        found = statement_of(5, 3, [(9, 1), (2, 1000), (7, 30)])
        self.assertEqual(found.shown(), (5, 3, ((2, 1000), (7, 30), (9, 1))))
        self.assertEqual((found.address, found.serial, found.links), (5, 3, ((2, 1000), (7, 30), (9, 1))))
        self.assertEqual(statement_of(5, 3, ()).shown(), (5, 3, ()))
        self.assertIsInstance(found.shown(), tuple)

    def test_a_statement_has_at_most_30_links(self):
        rows = [(one, 1) for one in range(2, 33)]
        self.assertEqual(len(statement_of(1, 1, rows[:30]).links), 30)
        with self.assertRaises(RouteError):
            statement_of(1, 1, rows)

    def test_costs_and_addresses_have_bounds(self):
        for cost in (1, 1000):
            self.assertEqual(statement_of(1, 1, [(2, cost)]).links, ((2, cost),))
        for address in (1, 65535):
            self.assertEqual(statement_of(address, 1, [(2, 3)]).address, address)
            self.assertEqual(statement_of(2, 1, [(address, 3)]).links, ((address, 3),))
        for row in ((2, 0), (2, 1001), (0, 1), (65536, 1), (-1, 1)):
            with self.assertRaises(RouteError):
                statement_of(1, 1, [(3, 1), row])
        for address in (0, 65536, -1):
            with self.assertRaises(RouteError):
                statement_of(address, 1, [(2, 3)])

    def test_a_link_told_twice_or_to_itself_is_refused(self):
        for rows in ([(2, 3), (2, 3)], [(2, 3), (3, 4), (2, 5)], [(1, 3)], [(2, 3), (1, 3)]):
            with self.assertRaises(RouteError):
                statement_of(1, 1, rows)


class BytesTest(unittest.TestCase):
    ROWS = ((1, 1, ()), (65535, 2 ** 62 - 1, ((1, 1000),)), (7, 300, tuple((one, one) for one in range(10, 40))))

    def test_bytes_come_back(self):
        for row in self.ROWS:
            data = statement_bytes(Statement(*row))
            self.assertIsInstance(data, tuple)
            self.assertEqual(read_statement(data).shown(), row)
            self.assertEqual(data[-4:], sum_bytes(data[:-4]))

    def test_changed_and_cut_bytes_are_refused(self):
        data = statement_bytes(Statement(*self.ROWS[2]))
        for place in range(len(data)):
            for change in (1, 128, 255):
                with self.assertRaises(RouteError):
                    read_statement(data[:place] + ((data[place] + change) % 256,) + data[place + 1:])
            for other in (data[:place], data[place + 1:], data + (0,) * (place + 1)):
                with self.assertRaises(RouteError):
                    read_statement(other)

    def test_what_is_no_statement_is_refused(self):
        for row in ((1, 1, ((3, 1), (2, 1))), (1, 1, ((2, 1), (2, 1))), (1, 1, ((1, 5),)), (1, 1, ((2, 0),)), (0, 1, ()),
                    (1, 1, ((2, 1001),)), (1, 1, tuple((one, 1) for one in range(2, 33)))):
            with self.assertRaises(RouteError):
                read_statement(statement_bytes(Statement(*row)))
        body = statement_bytes(Statement(1, 1, ((2, 3),)))[:-4]
        for other in (body + (7,), body[:-1], body[:3], ()):
            with self.assertRaises(RouteError):
                read_statement(other + sum_bytes(other))


class HearTest(unittest.TestCase):
    def test_fields(self):
        found = LinkMap(4)
        self.assertEqual((found.address, found.serial, found.statements, found.ages), (4, 0, {}, {}))

    def test_serials_count_from_1_on(self):
        found = LinkMap(4)
        self.assertEqual([found.tell([(2, cost)]).serial for cost in (5, 6, 7)], [1, 2, 3])
        self.assertEqual((found.serial, found.statements[4].shown()), (3, (4, 3, ((2, 7),))))

    def test_bad_links_change_nothing(self):
        found = LinkMap(4)
        found.tell([(2, 5)])
        with self.assertRaises(RouteError):
            found.tell([(4, 5)])
        self.assertEqual((found.serial, found.statements[4].shown()), (1, (4, 1, ((2, 5),))))
        self.assertEqual(found.tell([]).serial, 2)

    def test_newer_statements_replace_older_ones(self):
        found = LinkMap(4)
        self.assertIs(found.hear(statement_of(2, 7, [(4, 1)])), True)
        self.assertIs(found.hear(statement_of(2, 7, [(4, 2)])), False)
        self.assertIs(found.hear(statement_of(2, 6, [(4, 3)])), False)
        self.assertEqual(found.statements[2].shown(), (2, 7, ((4, 1),)))
        self.assertIs(found.hear(statement_of(2, 9, [(4, 4)])), True)
        self.assertEqual(found.statements[2].shown(), (2, 9, ((4, 4),)))

    def test_a_statement_of_the_own_address_is_never_kept_but_gone_on_from(self):
        found = LinkMap(4)
        found.tell([(2, 5)])
        self.assertIs(found.hear(statement_of(4, 30, [(3, 1)])), False)
        self.assertEqual(found.statements[4].shown(), (4, 1, ((2, 5),)))
        self.assertEqual(found.serial, 30)
        self.assertIs(found.hear(statement_of(4, 20, [(3, 1)])), False)
        self.assertEqual(found.tell([(2, 5)]).serial, 31)
        other = LinkMap(5)
        other.hear(statement_of(5, 3, []))
        self.assertEqual((list(other.statements), other.tell([]).serial), ([], 4))

    def test_statements_of_others_are_forgotten_at_60_ticks(self):
        found = LinkMap(4)
        found.tell([(2, 5)])
        found.hear(statement_of(2, 7, [(4, 1)]))
        for _ in range(59):
            found.tick()
        self.assertEqual((sorted(found.statements), found.ages[2]), ([2, 4], 59))
        found.tick()
        self.assertEqual((sorted(found.statements), 2 in found.ages), ([4], False))
        # What was forgotten is new again.
        self.assertIs(found.hear(statement_of(2, 7, [(4, 1)])), True)

    def test_only_a_newer_statement_counts_as_heard_again(self):
        for serial, left in ((7, []), (6, []), (8, [2])):
            found = LinkMap(4)
            found.hear(statement_of(2, 7, [(4, 1)]))
            for _ in range(59):
                found.tick()
            found.hear(statement_of(2, serial, [(4, 1)]))
            found.tick()
            self.assertEqual(sorted(found.statements), left)

    def test_the_own_statement_stays(self):
        found = LinkMap(4)
        found.tell([(2, 5)])
        for _ in range(200):
            found.tick()
        self.assertEqual(list(found.statements), [4])


class WaysTest(unittest.TestCase):
    def test_links_count_that_both_ends_tell_with_the_greater_cost(self):
        found = map_of(1, {1: [(2, 3), (3, 4), (5, 1)], 2: [(1, 9), (3, 1)], 3: [(1, 4)], 4: [(1, 1)]})
        self.assertEqual(found.both_links(), {(1, 2): 9, (2, 1): 9, (1, 3): 4, (3, 1): 4})
        self.assertEqual(LinkMap(1).both_links(), {})

    def test_the_cheapest_ways(self):
        found = map_of(1, {1: [(2, 10), (3, 1)], 2: [(1, 10), (4, 1)], 3: [(1, 1), (4, 3)], 4: [(2, 1), (3, 3)], 5: [(6, 1)],
                           6: [(5, 1)]})
        self.assertEqual(found.cheapest_ways(), {2: (5, 3), 3: (1, 3), 4: (4, 3)})
        self.assertEqual([found.next_on_way(target) for target in (2, 3, 4)], [3, 3, 3])

    def test_of_equal_ways_the_one_of_the_least_neighbour_counts(self):
        found = map_of(1, {1: [(2, 2), (3, 1)], 2: [(1, 2), (4, 1)], 3: [(1, 1), (4, 2)], 4: [(2, 1), (3, 2), (5, 1)],
                           5: [(4, 1)]})
        self.assertEqual(found.cheapest_ways(), {2: (2, 2), 3: (1, 3), 4: (3, 2), 5: (4, 2)})

    def test_no_way(self):
        found = map_of(1, {1: [(2, 2)], 2: [(1, 2)], 3: [(2, 1)]})
        for target in (1, 3, 9):
            with self.assertRaises(RouteError):
                found.next_on_way(target)
        self.assertEqual(found.next_on_way(2), 2)
        self.assertEqual(LinkMap(1).cheapest_ways(), {})

    def test_drawn_maps(self):
        chance = random.Random(3)
        for _ in range(150):
            many = chance.randrange(2, 7)
            rows = {one: {} for one in range(1, many + 1)}
            for one in rows:
                for other in rows:
                    if one != other and chance.random() < 0.6:
                        rows[one][other] = chance.choice((1, 1, 2, 3, 1000))
            found = map_of(1, {one: list(links.items()) for one, links in rows.items()})
            links = {(one, other): max(cost, rows[other][one]) for one in rows for other, cost in rows[one].items()
                     if one in rows[other]}
            self.assertEqual(found.both_links(), links)
            self.assertEqual(found.cheapest_ways(), cheapest(links, 1))

    def test_a_way_goes_when_a_link_is_told_no_more(self):
        found = map_of(1, {1: [(2, 2)], 2: [(1, 2), (3, 1)], 3: [(2, 1)]})
        self.assertEqual(found.next_on_way(3), 2)
        found.hear(statement_of(2, 2, [(1, 2)]))
        with self.assertRaises(RouteError):
            found.next_on_way(3)
        for _ in range(60):
            found.tick()
        self.assertEqual(found.cheapest_ways(), {})


if __name__ == "__main__":
    unittest.main()
