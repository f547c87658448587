import random
import unittest

from wirestack.errors import RouteError
from wirestack.frames import Deframer, frame_bytes
from wirestack.links import Link, bent_bytes


def choice_of(many, place, deed, rest=0):
    return place + many * (deed + 6 * rest)


def bend_rest(size, spot, change):
    return spot + size * (change - 1)


def link_with(*things):
    link = Link("a", "b")
    for data in things:
        link.send("a", data)
    return link


class LinkTest(unittest.TestCase):
    def test_a_new_link(self):
        link = Link("a", "b")
        self.assertEqual((link.first, link.second, link.room, link.up), ("a", "b", 60, True))
        self.assertEqual((link.on_way, link.lost, link.arrived), ([], 0, 0))

    def test_the_room_is_20_or_more(self):
        self.assertEqual(Link("a", "b", 20).room, 20)
        self.assertEqual(Link("a", "b", 500).room, 500)
        for room in (19, 0, -1):
            with self.assertRaises(RouteError):
                Link("a", "b", room)

    def test_a_link_needs_two_ends(self):
        with self.assertRaises(RouteError):
            Link("a", "a")

    def test_other_ends(self):
        link = Link("a", "b")
        self.assertEqual((link.other("a"), link.other("b")), ("b", "a"))
        for name in ("c", "", "ab"):
            with self.assertRaises(RouteError):
                link.other(name)

    def test_things_arrive_in_order(self):
        link = Link("a", "b")
        link.send("a", (1,))
        link.send("b", (2,))
        link.send("a", ())
        self.assertEqual(link.on_way, [("b", (1,), False), ("a", (2,), False), ("b", (), False)])
        self.assertEqual([link.next() for _ in range(4)], [("b", (1,)), ("a", (2,)), ("b", ()), None])
        self.assertEqual((link.arrived, link.lost, link.on_way), (3, 0, []))

    def test_200_things_are_on_the_way_at_most(self):
        link = Link("a", "b")
        for number in range(203):
            link.send("ab"[number % 2], (number,))
        self.assertEqual((len(link.on_way), link.lost), (200, 3))
        self.assertEqual(link.on_way[-1][1], (199,))
        link.next()
        link.send("a", (7,))
        link.send("a", (8,))
        self.assertEqual((len(link.on_way), link.lost, link.on_way[-1]), (200, 4, ("b", (7,), False)))

    def test_what_is_sent_on_a_link_that_is_down_is_lost(self):
        link = Link("a", "b")
        link.set_up(False)
        link.send("a", (1,))
        self.assertEqual((link.on_way, link.lost, link.up), ([], 1, False))
        link.set_up(True)
        link.send("a", (2,))
        self.assertEqual((link.on_way, link.lost, link.up), ([("b", (2,), False)], 1, True))

    def test_a_link_that_goes_down_loses_what_is_on_the_way(self):
        link = link_with((1,), (2,), (3,))
        link.set_up(True)
        self.assertEqual((len(link.on_way), link.lost), (3, 0))
        link.set_up(False)
        self.assertEqual((link.on_way, link.lost, link.arrived), ([], 3, 0))
        link.set_up(False)
        link.set_up(True)
        self.assertEqual((link.on_way, link.lost, link.next()), ([], 3, None))

    def test_a_name_that_is_no_end_cannot_send(self):
        link = link_with((1,))
        for up in (True, False):
            link.set_up(up)
            before = (list(link.on_way), link.lost)
            with self.assertRaises(RouteError):
                link.send("c", (1,))
            self.assertEqual((link.on_way, link.lost), before)


class ActTest(unittest.TestCase):
    def test_nothing_happens_with_nothing_on_the_way(self):
        link = Link("a", "b")
        for choice in range(40):
            self.assertIsNone(link.act(choice))
        self.assertEqual((link.lost, link.arrived, link.on_way), (0, 0, []))

    def test_deeds_0_to_2_let_it_arrive(self):
        for deed in (0, 1, 2):
            for place in range(3):
                link = link_with((1,), (2,), (3,))
                self.assertEqual(link.act(choice_of(3, place, deed, 5)), ("b", (place + 1,)))
                self.assertEqual([row[1] for row in link.on_way], [(n,) for n in (1, 2, 3) if n != place + 1])
                self.assertEqual((link.arrived, link.lost), (1, 0))

    def test_deed_3_loses_it(self):
        link = link_with((1,), (2,), (3,))
        self.assertIsNone(link.act(choice_of(3, 1, 3)))
        self.assertEqual([row[1] for row in link.on_way], [(1,), (3,)])
        self.assertEqual((link.arrived, link.lost), (0, 1))

    def test_deed_4_leaves_a_copy_at_the_end_of_the_row(self):
        link = link_with((1,), (2,), (3,))
        self.assertEqual(link.act(choice_of(3, 0, 4)), ("b", (1,)))
        self.assertEqual(link.on_way, [("b", (2,), False), ("b", (3,), False), ("b", (1,), False)])
        self.assertEqual((link.arrived, link.lost), (1, 0))

    def test_a_copy_of_something_bent_is_bent(self):
        link = link_with((1, 2, 3))
        self.assertIsNone(link.act(choice_of(1, 0, 5, bend_rest(3, 0, 5))))
        self.assertEqual(link.act(choice_of(1, 0, 4)), ("b", (6, 2, 3)))
        self.assertEqual(link.on_way, [("b", (6, 2, 3), True)])
        self.assertEqual(link.act(choice_of(1, 0, 5, 7)), ("b", (6, 2, 3)))

    def test_deed_5_bends_a_byte_where_it_stands(self):
        for spot in range(3):
            for change in (1, 2, 100, 255):
                link = link_with((9,), (10, 20, 30), (8,))
                self.assertIsNone(link.act(choice_of(3, 1, 5, bend_rest(3, spot, change))))
                data = [10, 20, 30]
                data[spot] = (data[spot] + change) % 256
                self.assertEqual(link.on_way, [("b", (9,), False), ("b", tuple(data), True), ("b", (8,), False)])
                self.assertEqual((link.arrived, link.lost), (0, 0))

    def test_the_change_is_1_and_a_remainder_by_255(self):
        link = link_with((10, 20, 30))
        self.assertIsNone(link.act(choice_of(1, 0, 5, 2 + 3 * (255 * 4 + 6))))
        self.assertEqual(link.on_way, [("b", (10, 20, 37), True)])

    def test_something_bent_already_arrives(self):
        link = link_with((10, 20, 30))
        link.act(choice_of(1, 0, 5, bend_rest(3, 2, 1)))
        self.assertEqual(link.act(choice_of(1, 0, 5, bend_rest(3, 0, 1))), ("b", (10, 20, 31)))
        self.assertEqual((link.on_way, link.arrived), ([], 1))

    def test_something_bent_can_be_lost_or_come_next(self):
        link = link_with((10, 20, 30), (1,))
        link.act(choice_of(2, 0, 5, bend_rest(3, 2, 1)))
        self.assertEqual(link.next(), ("b", (10, 20, 31)))
        self.assertIsNone(link.act(choice_of(1, 0, 3)))
        self.assertEqual((link.arrived, link.lost), (1, 1))

    def test_something_without_bytes_arrives_instead_of_being_bent(self):
        link = link_with(())
        self.assertEqual(link.act(choice_of(1, 0, 5, 9)), ("b", ()))
        self.assertEqual((link.on_way, link.arrived), ([], 1))

    def test_marks_and_escapes_stay_and_count_as_bent(self):
        link = link_with((126, 5, 126))
        self.assertIsNone(link.act(choice_of(1, 0, 5, bend_rest(3, 0, 7))))
        self.assertEqual(link.on_way, [("b", (126, 5, 126), True)])
        self.assertEqual(link.act(choice_of(1, 0, 5, bend_rest(3, 1, 7))), ("b", (126, 5, 126)))

    def test_choices_may_be_large(self):
        link = link_with((10, 20, 30), (1,))
        self.assertIsNone(link.act(choice_of(2, 0, 5, bend_rest(3, 1, 2) + 3 * 255 * 10 ** 20)))
        self.assertEqual(link.on_way[0], ("b", (10, 22, 30), True))

    def test_counts_add_up_over_many_choices(self):
        chance = random.Random(7)
        link = Link("a", "b")
        sent = copies = came = 0
        for _ in range(2000):
            if chance.random() < 0.5:
                link.send(chance.choice("ab"), (chance.randrange(100),))
                sent += 1
            else:
                choice = chance.randrange(10 ** 6)
                copies += link.on_way != [] and choice // len(link.on_way) % 6 == 4
                came += link.act(choice) is not None
        self.assertEqual(link.arrived, came)
        self.assertEqual(sent + copies, link.arrived + link.lost + len(link.on_way))


class BentTest(unittest.TestCase):
    def test_a_byte_is_raised_by_256(self):
        self.assertEqual(bent_bytes((10, 20, 30), 1, 5), (10, 25, 30))
        self.assertEqual(bent_bytes((250,), 0, 10), (4,))
        self.assertEqual(bent_bytes((1, 0), 1, 255), (1, 255))

    def test_marks_and_escapes_stay(self):
        for byte in (125, 126):
            for change in (1, 2, 255):
                self.assertEqual(bent_bytes((4, byte, 5), 1, change), (4, byte, 5))

    def test_bytes_that_would_become_marks_or_escapes_stay(self):
        self.assertEqual(bent_bytes((124,), 0, 1), (124,))
        self.assertEqual(bent_bytes((124,), 0, 2), (124,))
        self.assertEqual(bent_bytes((124,), 0, 3), (127,))
        self.assertEqual(bent_bytes((127,), 0, 255), (127,))
        self.assertEqual(bent_bytes((127,), 0, 254), (127,))
        self.assertEqual(bent_bytes((127,), 0, 253), (124,))

    def test_what_follows_an_escape_stays(self):
        self.assertEqual(bent_bytes((126, 125, 94, 9), 2, 7), (126, 125, 94, 9))
        self.assertEqual(bent_bytes((126, 125, 94, 9), 3, 7), (126, 125, 94, 16))
        self.assertEqual(bent_bytes((125, 94), 1, 7), (125, 94))
        self.assertEqual(bent_bytes((5, 125), 0, 1), (6, 125))

    def test_a_frame_that_was_bent_anywhere_never_tells_another_payload(self):
        payload = (1, 125, 126, 2, 124, 127, 250)
        data = frame_bytes(payload)
        for spot in range(len(data)):
            for change in range(1, 256):
                bent = bent_bytes(data, spot, change)
                deframer = Deframer()
                found = deframer.feed(bent)
                self.assertEqual((found, deframer.damaged), (((payload,), 0) if bent == data else ((), 1)))


if __name__ == "__main__":
    unittest.main()
