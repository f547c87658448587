import itertools
import random
import unittest

from wirestack.errors import NetError, PacketError
from wirestack.octets import sum_bytes
from wirestack.packets import Assembler, Packet, joined, packet_bytes, parts_of, read_packet


def part(place, last, body, source=1, number=5):
    return Packet(source, 2, 16, number, place, last, tuple(body))


class PacketBytesTest(unittest.TestCase):
    def test_a_packet_reckoned_by_hand(self):
        data = (0, 1, 1, 2, 16, 172, 2, 0, 40, 1, 3, 7, 8, 9)
        packet = Packet(1, 258, 16, 300, 40, 1, (7, 8, 9))
        self.assertEqual(packet_bytes(packet), data + sum_bytes(data))
        self.assertEqual(packet.shown(), (1, 258, 16, 300, 40, 1, (7, 8, 9)))

    def test_packets_read_back_with_all_fields(self):
        for row in ((1, 2, 3, 4, 0, 1, ()), (65535, 0, 0, 0, 65535, 0, (0,)), (7, 65535, 16, 2 ** 62 - 1, 1940, 1, (255,)),
                    (3, 4, 1, 128, 60, 0, tuple(range(256)) * 2), (51205, 51206, 9, 16384, 51207, 1, (3,) * 200)):
            packet = Packet(*row)
            self.assertEqual((packet.source, packet.target, packet.hops, packet.number, packet.place, packet.last,
                              packet.body), row)
            self.assertEqual(read_packet(packet_bytes(packet)).shown(), row)

    def test_each_changed_byte_is_refused(self):
        data = packet_bytes(Packet(1, 2, 3, 400, 0, 1, (5, 6, 7)))
        for place in range(len(data)):
            for change in (1, 17, 255):
                with self.assertRaises(PacketError):
                    read_packet(data[:place] + ((data[place] + change) % 256,) + data[place + 1:])

    def test_cut_and_lengthened_bytes_are_refused(self):
        data = packet_bytes(Packet(1, 2, 3, 4, 0, 1, (5, 6, 7)))
        for many in range(len(data)):
            with self.assertRaises(PacketError):
                read_packet(data[:many])
        for more in ((0,), (1, 2), (0,) * 9):
            with self.assertRaises(PacketError):
                read_packet(data + more)

    def test_bytes_with_a_right_sum_that_form_no_packet_are_refused(self):
        good = (0, 1, 0, 2, 3, 4, 0, 0, 1, 1, 9)
        self.assertEqual(read_packet(good + sum_bytes(good)).shown(), (1, 2, 3, 4, 0, 1, (9,)))
        for data in ((), good[:-1], good + (0,), good[:4] + (17,) + good[5:], good[:8] + (2,) + good[9:],
                     good[:5] + (132, 0) + good[6:], good[:9] + (2, 9), good[:9]):
            with self.assertRaises(PacketError):
                read_packet(data + sum_bytes(data))

    def test_hops_from_0_to_16_go_and_others_do_not(self):
        for hops in range(17):
            self.assertEqual(read_packet(packet_bytes(Packet(1, 2, hops, 4, 0, 1, ()))).hops, hops)
        for hops in (-1, 17, 18, 255, 256):
            with self.assertRaises(PacketError):
                packet_bytes(Packet(1, 2, hops, 4, 0, 1, ()))

    def test_packets_that_cannot_be_told_are_refused(self):
        for row in ((65536, 2, 3, 4, 0, 1, ()), (-1, 2, 3, 4, 0, 1, ()), (1, 65536, 3, 4, 0, 1, ()),
                    (1, -1, 3, 4, 0, 1, ()), (1, 2, 3, -1, 0, 1, ()), (1, 2, 3, 2 ** 62, 0, 1, ()),
                    (1, 2, 3, 4, 65536, 1, ()), (1, 2, 3, 4, -1, 1, ()), (1, 2, 3, 4, 0, 256, ())):
            with self.assertRaises(PacketError):
                packet_bytes(Packet(*row))

    def test_a_packet_passed_on_has_a_hop_less(self):
        packet = Packet(1, 2, 16, 4, 60, 0, (5, 6))
        for hops in range(15, 0, -1):
            packet = packet.passed_on()
            self.assertEqual(packet.shown(), (1, 2, hops, 4, 60, 0, (5, 6)))
        with self.assertRaises(PacketError):
            packet.passed_on()
        with self.assertRaises(PacketError):
            Packet(1, 2, 0, 4, 0, 1, ()).passed_on()

    def test_passing_on_leaves_the_packet_as_it_was(self):
        packet = Packet(1, 2, 9, 4, 0, 1, (5,))
        packet.passed_on()
        self.assertEqual(packet.hops, 9)


class PartsTest(unittest.TestCase):
    def test_bodies_that_fit_go_whole(self):
        for body in ((), (1,), tuple(range(19)), tuple(range(20))):
            rows = parts_of(Packet(1, 2, 16, 5, 0, 1, body), 20)
            self.assertIsInstance(rows, tuple)
            self.assertEqual([row.shown() for row in rows], [(1, 2, 16, 5, 0, 1, body)])

    def test_larger_bodies_go_in_parts_of_the_room(self):
        body = tuple(range(45))
        self.assertEqual([row.shown() for row in parts_of(Packet(1, 2, 7, 5, 0, 1, body), 20)],
                         [(1, 2, 7, 5, 0, 0, body[:20]), (1, 2, 7, 5, 20, 0, body[20:40]), (1, 2, 7, 5, 40, 1, body[40:])])
        self.assertEqual([row.shown()[4:] for row in parts_of(Packet(1, 2, 7, 5, 0, 1, body[:40]), 20)],
                         [(0, 0, body[:20]), (20, 1, body[20:40])])
        self.assertEqual([row.body for row in parts_of(Packet(1, 2, 7, 5, 0, 1, (1, 2, 3)), 1)], [(1,), (2,), (3,)])

    def test_a_part_is_parted_again_at_its_place(self):
        body = tuple(range(50))
        rows = parts_of(Packet(1, 2, 7, 5, 60, 0, body), 20)
        self.assertEqual([row.shown()[3:] for row in rows],
                         [(5, 60, 0, body[:20]), (5, 80, 0, body[20:40]), (5, 100, 0, body[40:])])
        self.assertEqual([row.last for row in parts_of(Packet(1, 2, 7, 5, 60, 1, body), 20)], [0, 0, 1])

    def test_a_room_below_1_is_refused(self):
        for room in (0, -1):
            for body in ((), (1, 2)):
                with self.assertRaises(PacketError):
                    parts_of(Packet(1, 2, 7, 5, 0, 1, body), room)


class AssemblerTest(unittest.TestCase):
    def test_whole_bodies_come_at_once(self):
        assembler = Assembler()
        for body in ((1,), tuple(range(256)), (9,) * 2000):
            self.assertEqual(assembler.add(part(0, 1, body)), body)
            self.assertEqual(assembler.waiting, {})

    def test_parts_come_together_in_each_order(self):
        body = tuple(range(70))
        rows = parts_of(part(0, 1, body), 20)
        for order in itertools.permutations(rows):
            assembler = Assembler()
            self.assertEqual([assembler.add(row) for row in order], [None, None, None, body])
            self.assertEqual(assembler.waiting, {})

    def test_doubled_parts_do_no_harm(self):
        body = tuple(range(50))
        one, two, three = parts_of(part(0, 1, body), 20)
        assembler = Assembler()
        self.assertEqual([assembler.add(row) for row in (three, three, one, one, three, two)], [None] * 5 + [body])

    def test_lost_parts_give_nothing(self):
        rows = parts_of(part(0, 1, range(70)), 20)
        for lost in range(4):
            assembler = Assembler()
            for place, row in enumerate(rows):
                if place != lost:
                    self.assertIsNone(assembler.add(row))
            self.assertEqual(len(assembler.waiting), 1)

    def test_parts_of_several_packets_are_kept_apart(self):
        chance = random.Random(4)
        bodies = {}
        rows = []
        for source in (1, 2, 3):
            for number in (0, 1, 70):
                bodies[source, number] = tuple(chance.randrange(256) for _ in range(chance.randrange(41, 130)))
                rows.extend(parts_of(part(0, 1, bodies[source, number], source, number), 20))
        chance.shuffle(rows)
        assembler = Assembler()
        found = {}
        for row in rows:
            body = assembler.add(row)
            if body is not None:
                found[row.source, row.number] = body
        self.assertEqual(found, bodies)
        self.assertEqual(assembler.waiting, {})

    def test_parts_that_were_parted_again_come_together(self):
        body = tuple(range(200))
        rows = [small for row in parts_of(part(0, 1, body), 60) for small in parts_of(row, 25)]
        random.Random(5).shuffle(rows)
        assembler = Assembler()
        self.assertEqual([found for found in map(assembler.add, rows) if found is not None], [body])

    def test_parts_beyond_2000_are_left_out(self):
        assembler = Assembler()
        for place, last, body in ((2000, 0, (1,)), (1999, 1, (1, 2)), (0, 1, (1,) * 2001), (65535, 1, (1,))):
            self.assertIsNone(assembler.add(part(place, last, body)))
            self.assertEqual(assembler.waiting, {})
        rows = parts_of(part(0, 1, (7,) * 2000), 100)
        self.assertEqual([assembler.add(row) for row in rows], [None] * 19 + [(7,) * 2000])

    def test_empty_parts_are_left_out(self):
        assembler = Assembler()
        for place, last in ((0, 0), (20, 0), (20, 1)):
            self.assertIsNone(assembler.add(part(place, last, ())))
            self.assertEqual(assembler.waiting, {})
        assembler.add(part(0, 0, range(20)))
        self.assertIsNone(assembler.add(part(20, 1, ())))
        self.assertEqual(assembler.add(part(20, 1, (5,))), tuple(range(20)) + (5,))

    def test_a_wrong_part_does_not_let_others_wait_longer(self):
        assembler = Assembler()
        assembler.add(part(0, 0, range(20)))
        for _ in range(39):
            assembler.tick()
        assembler.add(part(2000, 0, (1,)))
        assembler.add(part(20, 0, ()))
        assembler.tick()
        self.assertEqual(assembler.waiting, {})

    def test_a_later_part_takes_the_place_of_the_other(self):
        assembler = Assembler()
        assembler.add(part(0, 0, (1,) * 20))
        assembler.add(part(0, 0, (2,) * 20))
        self.assertEqual(assembler.add(part(20, 1, (3,))), (2,) * 20 + (3,))
        assembler.add(part(0, 0, (1,) * 20))
        assembler.add(part(0, 0, (2,) * 15))
        self.assertIsNone(assembler.add(part(20, 1, (3,))))
        self.assertEqual(assembler.add(part(0, 0, (4,) * 20)), (4,) * 20 + (3,))

    def test_parts_that_told_things_in_two_ways_give_nothing(self):
        assembler = Assembler()
        assembler.add(part(0, 0, (1,) * 20))
        assembler.add(part(10, 0, (2,) * 20))
        self.assertIsNone(assembler.add(part(30, 1, (3,) * 5)))
        self.assertEqual(len(assembler.waiting), 1)

    def test_parts_are_left_out_after_40_ticks_without_another_one(self):
        assembler = Assembler()
        one, two, three = parts_of(part(0, 1, range(50)), 20)
        assembler.add(one)
        for _ in range(39):
            assembler.tick()
        self.assertEqual(len(assembler.waiting), 1)
        assembler.add(two)
        for _ in range(39):
            assembler.tick()
        self.assertEqual(assembler.add(three), tuple(range(50)))
        assembler.add(one)
        assembler.add(two)
        for _ in range(40):
            self.assertEqual(len(assembler.waiting), 1)
            assembler.tick()
        self.assertEqual(assembler.waiting, {})
        self.assertIsNone(assembler.add(three))

    def test_other_packets_do_not_let_parts_wait_longer(self):
        assembler = Assembler()
        assembler.add(part(0, 0, range(20), number=1))
        for _ in range(20):
            assembler.tick()
        assembler.add(part(0, 0, range(20), number=2))
        for _ in range(20):
            assembler.tick()
        self.assertEqual(len(assembler.waiting), 1)
        self.assertIsNone(assembler.add(part(20, 1, (1,), number=1)))
        self.assertEqual(assembler.add(part(20, 1, (1,), number=2)), tuple(range(20)) + (1,))


class JoinedTest(unittest.TestCase):
    def test_parts_join_by_place(self):
        self.assertEqual(joined({2: (3, 4), 0: (1, 2)}, 4), (1, 2, 3, 4))
        self.assertEqual(joined({0: (1,)}, 1), (1,))

    def test_nothing_is_joined_without_a_size_or_with_bytes_missing(self):
        self.assertIsNone(joined({0: (1, 2)}, None))
        self.assertIsNone(joined({0: (1, 2)}, 3))
        self.assertIsNone(joined({0: (1, 2), 3: (4,)}, 4))
        self.assertIsNone(joined({1: (1, 2)}, 3))

    def test_nothing_is_joined_of_what_was_told_in_two_ways(self):
        self.assertIsNone(joined({0: (1, 2), 1: (3, 4)}, 3))
        self.assertIsNone(joined({0: (1, 2, 3), 2: (9,), 3: (4,)}, 4))


    def test_parts_that_overlap(self):
        body = tuple(range(20))
        for parts, size, good in (({0: body[:9], 5: body[5:20]}, 20, True), ({0: body[:9], 3: body[3:6], 9: body[9:]}, 20, True),
                                  ({0: body, 4: body[4:9]}, 20, True), ({0: body[:9], 10: body[10:]}, 20, False),
                                  ({0: body[:9], 5: (6,) + body[6:]}, 20, False), ({0: body, 4: body[4:8] + (0,)}, 20, False),
                                  ({5: body[5:], 0: body[:5]}, 20, True), ({0: body, 15: body[15:] + (20,)}, 20, False),
                                  ({0: body}, 19, False), ({0: body}, 21, False), ({1: body[1:]}, 20, False), ({}, 0, True)):
            self.assertEqual(joined(parts, size), body[:size] if good else None, parts)


class NoOtherErrorTest(unittest.TestCase):
    def test_any_bytes_give_a_packet_or_a_packet_error(self):
        chance = random.Random(6)
        for _ in range(500):
            data = tuple(chance.choice((0, 1, 2, 128, 255, chance.randrange(256))) for _ in range(chance.randrange(30)))
            try:
                read_packet(data + sum_bytes(data))
            except NetError as error:
                self.assertIsInstance(error, PacketError)


if __name__ == "__main__":
    unittest.main()
