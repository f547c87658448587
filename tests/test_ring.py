import unittest

from wirestack.errors import StoreError
from wirestack.ring import Ring, point_of

POINTS = 1000003


class PointTest(unittest.TestCase):
    def test_points_of_texts(self):
        self.assertEqual(point_of(""), 7)
        # 31 times 7 plus 97 is 314; squared plus 3.
        self.assertEqual(point_of("a"), 314 * 314 + 3)
        self.assertEqual(point_of(" "), (31 * 7 + 32) ** 2 + 3)
        first = 314 * 314 + 3
        self.assertEqual(point_of("ab"), ((31 * first + 98) % POINTS) ** 2 % POINTS + 3)
        point = 7
        for sign in "12/7":
            point = ((31 * point + ord(sign)) ** 2 + 3) % POINTS
        self.assertEqual(point_of("12/7"), point)

    def test_points_are_on_the_circle(self):
        for text in ("x" * number for number in range(300)):
            self.assertTrue(0 <= point_of(text) < POINTS)
        self.assertNotEqual(point_of("ab"), point_of("ba"))


class RingTest(unittest.TestCase):
    def test_fields(self):
        ring = Ring((5, 2))
        self.assertEqual(ring.addresses, (2, 5))
        self.assertEqual(ring.rows, tuple(sorted([(point_of(f"{address}/{number}"), address)
                                                  for address in (2, 5) for number in range(8)])))
        self.assertEqual(Ring([1, 3]).addresses, (1, 3))
        self.assertEqual((Ring(()).addresses, Ring(()).rows), ((), ()))

    def test_each_host_has_eight_points(self):
        ring = Ring(range(1, 9))
        self.assertEqual(len(ring.rows), 64)
        for address in range(1, 9):
            self.assertEqual(len([row for row in ring.rows if row[1] == address]), 8)

    def walk(self, ring, key, many):
        """Return the holders of a key, found point by point around the circle."""
        found = []
        point = point_of(key)
        for step in range(POINTS):
            place = (point + step) % POINTS
            for other, address in ring.rows:
                if other == place and address not in found:
                    found.append(address)
            if len(found) >= many:
                return tuple(found[:many])

    def test_holders(self):
        ring = Ring((1, 2, 3, 4))
        for key in ("", "a", "key", "another key", "x" * 100):
            for many in (1, 2, 3, 4):
                found = ring.holders(key, many)
                self.assertEqual(len(set(found)), many)
                self.assertEqual(found, ring.holders(key, 4)[:many])
        self.assertEqual(ring.holders("a", 2), self.walk(Ring((1, 2, 3, 4)), "a", 2))

    def test_holders_around_the_circles_end(self):
        ring = Ring((1, 2, 3))
        last = ring.rows[-1][0]
        found = 0
        for number in range(3000):
            key = f"k{number}"
            if point_of(key) > last:
                found += 1
                self.assertEqual(ring.holders(key, 1), (ring.rows[0][1],))
        self.assertGreater(found, 0)

    def test_a_point_of_a_host_is_its_own(self):
        ring = Ring((1, 2, 3, 4, 5))
        for address in ring.addresses:
            for number in range(8):
                self.assertEqual(ring.holders(f"{address}/{number}", 1), (address,))

    def test_fewer_hosts_than_asked_for(self):
        ring = Ring((1, 2, 3))
        for many in (0, -1, 4, 100):
            with self.assertRaises(StoreError):
                ring.holders("a", many)
        with self.assertRaises(StoreError):
            Ring(()).holders("a", 1)

    def test_one_host_more_and_one_less(self):
        ring = Ring((1, 2, 4))
        more = ring.with_host(3)
        self.assertEqual((more.addresses, more.rows), (Ring((1, 2, 3, 4)).addresses, Ring((1, 2, 3, 4)).rows))
        self.assertEqual(ring.addresses, (1, 2, 4))
        less = more.without_host(2)
        self.assertEqual((less.addresses, less.rows), ((1, 3, 4), Ring((1, 3, 4)).rows))
        self.assertEqual(more.addresses, (1, 2, 3, 4))
        with self.assertRaises(StoreError):
            ring.without_host(3)
        self.assertEqual(Ring((1,)).without_host(1).addresses, ())

    def test_a_host_that_is_there_stays_once(self):
        self.assertEqual(Ring((1, 2)).with_host(2).rows, Ring((1, 2)).rows)

    def test_few_keys_move_when_a_host_comes(self):
        ring = Ring((1, 2, 3, 4))
        more = ring.with_host(5)
        for number in range(200):
            old, new = ring.holders(f"k{number}", 2), more.holders(f"k{number}", 2)
            self.assertEqual([address for address in new if address not in old and address != 5], [])


if __name__ == "__main__":
    unittest.main()
