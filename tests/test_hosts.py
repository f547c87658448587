import random
import unittest

from wirestack.errors import FilterError
from wirestack.filters import run_filter
from wirestack.frames import frame_bytes, payloads_in
from wirestack.hosts import Host, KnownFrames
from wirestack.network import Network
from wirestack.packets import Packet, packet_bytes, read_packet
from wirestack.routes import read_vector, vector_bytes
from wirestack.rules import Guard, compiled, parse_rules
from wirestack.streams import read_segment

SEGMENTS, WAYS, NAMES = 1, 2, 3


def frame(packet):
    return frame_bytes(packet_bytes(packet))


def packets_on(link):
    """Return (end, packet) of all that is on the way."""
    return [(end, read_packet(payload)) for end, data, _ in link.on_way for payload in payloads_in(data)]


class Recorder:
    """Something that runs on a host and writes down when."""

    def __init__(self, deed=None):
        self.seen = []
        self.deed = deed

    def tick(self):
        self.seen.append(self.deed() if self.deed else None)


class HostCase(unittest.TestCase):
    def build(self, *rows, names="abcdefghij"):
        """Return a network of links told as "ab" or ("ab", room)."""
        self.net = Network()
        used = "".join([row if isinstance(row, str) else row[0] for row in rows])
        for name in names:
            if name in used:
                self.net.add_host(name)
        links = []
        for row in rows:
            ends, room = (row, 60) if isinstance(row, str) else row
            links.append(self.net.add_link(ends[0], ends[1], room))
        self.hosts = self.net.hosts
        return links

    def learn(self, rounds=20):
        for _ in range(rounds):
            self.net.round()

    def empty(self):
        for link in self.net.links:
            while link.next() is not None:
                pass

    def heard(self, name):
        """Let a host write down what comes to its streams; return the row."""
        found = []
        self.hosts[name].endpoint.receive = lambda source, data: found.append((source, data))
        return found


class FieldTest(unittest.TestCase):
    def test_fields(self):
        host = Host("ann", 7)
        self.assertEqual((host.name, host.address, host.clock, host.runs, host.damaged, host.dropped),
                         ("ann", 7, 0, [], 0, 0))
        self.assertEqual((host.endpoint.address, host.routes.address, host.guard), (7, 7, None))
        self.assertEqual(host.services, {})

    def test_a_host_without_links_goes_on(self):
        host = Host("ann", 7)
        host.send(1, SEGMENTS, (1, 2))
        host.tick()
        host.tick()
        self.assertEqual((host.clock, host.dropped), (2, 1))


class WaysTest(HostCase):
    def test_ways_are_told_at_the_first_tick_and_each_third(self):
        links = self.build("ab", "ac")
        told = []
        for clock in range(1, 14):
            self.hosts["a"].tick()
            for link in links:
                rows = packets_on(link)
                self.assertEqual(len(rows), 1 if clock in (1, 3, 6, 9, 12) else 0, clock)
            told.extend(rows)
            self.empty()
        end, packet = told[0]
        self.assertEqual((end, packet.source, packet.target, packet.hops), ("c", 1, 3, 16))
        self.assertEqual((packet.body[0], read_vector(packet.body[1:])), (WAYS, ((1, 0),)))

    def test_ways_are_learnt_over_many_links(self):
        self.build("ab", "bc", "cd", "ae")
        self.learn()
        self.assertEqual(self.hosts["a"].routes.shown(), ((2, 2, 1), (3, 2, 2), (4, 2, 3), (5, 5, 1)))
        self.assertEqual(self.hosts["d"].routes.shown(), ((1, 3, 3), (2, 3, 2), (3, 3, 1), (5, 3, 4)))

    def test_ways_told_to_a_neighbour_say_too_far_of_what_it_leads_to(self):
        links = self.build("ab", "bc")
        self.learn()
        self.empty()
        while links[0].on_way == []:
            self.hosts["b"].tick()
        rows = [packet for end, packet in packets_on(links[0]) if packet.source == 2]
        self.assertEqual(read_vector(rows[0].body[1:]), ((1, 16), (2, 0), (3, 1)))

    def test_ways_grow_old(self):
        links = self.build("ab", "bc")
        self.learn()
        links[1].set_up(False)
        self.learn(30)
        self.assertEqual(self.hosts["a"].routes.shown(), ((2, 2, 1),))
        self.assertEqual(self.hosts["c"].routes.shown(), ())

    def test_ways_of_a_host_that_is_no_neighbour_are_left_out(self):
        self.build("ab", "bc")
        self.hosts["a"].hear(3, vector_bytes(((3, 0),)))
        self.assertEqual(self.hosts["a"].routes.shown(), ())
        self.hosts["a"].hear(2, (9,))
        self.assertEqual(self.hosts["a"].routes.shown(), ())
        self.hosts["a"].hear(2, vector_bytes(((2, 0), (9, 3))))
        self.assertEqual(self.hosts["a"].routes.shown(), ((2, 2, 1), (9, 2, 4)))

    def test_many_ways_are_told_in_parts(self):
        links = self.build(("ab", 20))
        self.hosts["a"].hear(2, vector_bytes(tuple([(address, 3) for address in range(10, 40)])))
        self.hosts["a"].tick()
        rows = packets_on(links[0])
        self.assertEqual(len(rows), 5)
        self.assertTrue(all(len(packet.body) <= 20 for _, packet in rows))
        for _, packet in rows:
            self.hosts["b"].take(packet)
        self.assertEqual(self.hosts["b"].routes.shown(), ((1, 1, 1),))


class SendTest(HostCase):
    def test_a_body_is_its_class_and_the_bytes(self):
        links = self.build("ab")
        self.learn(3)
        self.empty()
        self.hosts["a"].send(2, NAMES, (7, 8))
        ((end, packet),) = packets_on(links[0])
        self.assertEqual((end, packet.source, packet.target, packet.hops, packet.place, packet.last, packet.body),
                         ("b", 1, 2, 16, 0, 1, (NAMES, 7, 8)))

    def test_packets_have_numbers_of_their_own(self):
        links = self.build("ab")
        self.learn(3)
        self.empty()
        for _ in range(4):
            self.hosts["a"].send(2, SEGMENTS, (7,))
        self.assertEqual(len({packet.number for _, packet in packets_on(links[0])}), 4)

    def test_over_the_neighbour_that_leads_to_the_target(self):
        links = self.build("ab", "ac", "cd")
        self.learn()
        self.empty()
        found = self.heard("d")
        self.hosts["a"].send(4, SEGMENTS, (7, 8))
        self.assertEqual([len(link.on_way) for link in links], [0, 1, 0])
        self.learn(2)
        self.assertEqual(found, [(1, (7, 8))])

    def test_in_parts_where_the_links_room_is_smaller(self):
        links = self.build(("ab", 20), ("bc", 60), ("cd", 25))
        self.learn()
        self.empty()
        found = self.heard("d")
        data = tuple(range(200))
        self.hosts["a"].send(4, SEGMENTS, data)
        rows = [packet for _, packet in packets_on(links[0])]
        self.assertEqual([len(packet.body) for packet in rows], [20] * 10 + [1])
        self.assertEqual(len({packet.number for packet in rows}), 1)
        self.assertEqual([packet.last for packet in rows], [0] * 10 + [1])
        self.learn(4)
        self.assertEqual(found, [(1, data)])

    def test_parts_are_parted_again(self):
        links = self.build(("ab", 60), ("bc", 25))
        self.learn()
        self.empty()
        self.hosts["a"].send(3, SEGMENTS, tuple(range(100)))
        for end, data, _ in list(links[0].on_way):
            self.hosts["b"].receive(1, data)
        rows = [packet for _, packet in packets_on(links[1])]
        self.assertEqual([(packet.place, len(packet.body), packet.last) for packet in rows],
                         [(0, 25, 0), (25, 25, 0), (50, 10, 0), (60, 25, 0), (85, 16, 1)])

    def test_a_room_that_no_frame_has(self):
        links = self.build(("ab", 1500))
        self.learn(3)
        self.empty()
        found = self.heard("b")
        data = tuple([number % 256 for number in range(1500)])
        self.hosts["a"].send(2, SEGMENTS, data)
        self.assertGreater(len(links[0].on_way), 3)
        self.learn(1)
        self.assertEqual(found, [(1, data)])

    def test_a_packet_that_just_fits_in_a_frame_goes_in_one_part(self):
        for size, many in ((384, 1), (385, 2)):
            links = self.build(("ab", 400))
            self.learn(3)
            self.empty()
            self.hosts["a"].send(2, SEGMENTS, (1,) * size)
            self.assertEqual(len(links[0].on_way), many)
            self.assertEqual(len(payloads_in(links[0].on_way[0][1])[0]), 400)

    def test_a_body_that_just_fits_goes_in_one_part(self):
        for size, many in ((59, 1), (60, 2)):
            links = self.build("ab")
            self.learn(3)
            self.empty()
            self.hosts["a"].send(2, SEGMENTS, (1,) * size)
            self.assertEqual(len(links[0].on_way), many)

    def test_no_way_known(self):
        links = self.build("ab", "cd")
        self.learn()
        self.empty()
        self.hosts["a"].send(3, SEGMENTS, (1,))
        self.hosts["a"].send(99, SEGMENTS, (1,))
        self.assertEqual(self.hosts["a"].dropped, 2)
        self.assertEqual([link.on_way for link in links], [[], []])


class PassTest(HostCase):
    def packet(self, **parts):
        known = {"source": 1, "target": 3, "hops": 16, "number": 5, "place": 0, "last": 1, "body": (SEGMENTS, 7)}
        known.update(parts)
        return Packet(**known)

    def setUp(self):
        self.links = self.build("ab", "bc")
        self.learn()
        self.empty()

    def test_a_packet_is_passed_on_with_a_hop_less(self):
        for hops in (16, 3, 2):
            self.hosts["b"].receive(1, frame(self.packet(hops=hops)))
            ((end, packet),) = packets_on(self.links[1])
            self.assertEqual((end, packet.shown()), ("c", (1, 3, hops - 1, 5, 0, 1, (SEGMENTS, 7))))
            self.empty()
        self.assertEqual(self.hosts["b"].dropped, 0)

    def test_not_with_the_last_hop(self):
        for hops in (1, 0):
            self.hosts["b"].receive(1, frame(self.packet(hops=hops)))
        self.assertEqual([link.on_way for link in self.links], [[], []])
        self.assertEqual(self.hosts["b"].dropped, 2)

    def test_a_packet_for_this_host_needs_no_hop(self):
        found = self.heard("b")
        self.hosts["b"].receive(1, frame(self.packet(target=2, hops=1)))
        self.hosts["b"].receive(1, frame(self.packet(target=2, hops=0, number=6)))
        self.assertEqual(found, [(1, (7,)), (1, (7,))])
        self.assertEqual([link.on_way for link in self.links], [[], []])

    def test_not_without_a_way(self):
        self.hosts["b"].receive(1, frame(self.packet(target=9)))
        self.assertEqual(self.hosts["b"].dropped, 1)
        self.assertEqual([link.on_way for link in self.links], [[], []])

    def test_a_ring_of_ways_ends(self):
        for name, neighbour in (("a", 2), ("b", 1)):
            self.hosts[name].hear(neighbour, vector_bytes(((9, 3),)))
        self.hosts["a"].send(9, SEGMENTS, (7,))
        for _ in range(40):
            arrived = self.links[0].next()
            if arrived is None:
                break
            end, data = arrived
            self.hosts[end].receive(2 if end == "a" else 1, data)
        self.assertIsNone(self.links[0].next())
        self.assertEqual(self.hosts["a"].dropped + self.hosts["b"].dropped, 1)


class DamageTest(HostCase):
    def setUp(self):
        self.links = self.build("ab")
        self.learn(3)
        self.empty()
        self.host = self.hosts["b"]
        self.good = frame(Packet(1, 2, 16, 900, 0, 1, (SEGMENTS, 7)))

    def test_damaged_frames_and_packets_are_counted(self):
        found = self.heard("b")
        bent = list(self.good)
        bent[3] = bent[3] + 1
        self.host.receive(1, tuple(bent))
        self.assertEqual(self.host.damaged, 1)
        self.host.receive(1, frame_bytes((1, 2, 3)))
        self.assertEqual(self.host.damaged, 2)
        self.host.receive(1, frame_bytes(packet_bytes(Packet(1, 2, 16, 900, 0, 1, (SEGMENTS, 7)))[:-1] + (0,)))
        self.assertEqual((self.host.damaged, found), (3, []))
        self.host.receive(1, self.good)
        self.assertEqual((self.host.damaged, found), (3, [(1, (7,))]))
        self.assertEqual(self.host.dropped, 0)

    def test_bytes_may_come_in_pieces_from_each_neighbour(self):
        found = self.heard("b")
        for byte in self.good[:9]:
            self.host.receive(1, (byte,))
        self.host.receive(3, self.good[5:])
        self.assertEqual(found, [])
        self.host.receive(1, self.good[9:])
        self.assertEqual(found, [(1, (7,))])

    def test_bodies_of_no_known_class_are_left_out(self):
        for kind in (0, 9, 255):
            self.host.take(Packet(1, 2, 16, 900 + kind, 0, 1, (kind, 7)))
        self.assertEqual((self.host.damaged, self.host.dropped), (0, 0))

    def test_segments_go_to_the_streams_and_ways_to_the_ways(self):
        self.host.take(Packet(1, 2, 16, 900, 0, 1, (WAYS,) + vector_bytes(((1, 0), (8, 2)))))
        self.assertEqual(self.host.routes.shown(), ((1, 1, 1), (8, 1, 3)))
        self.host.endpoint.listen()
        stream = self.hosts["a"].endpoint.connect(2)
        stream.send((5, 6))
        self.hosts["a"].endpoint.tick()
        for target, data in self.hosts["a"].endpoint.take_outbox():
            self.host.take(Packet(1, 2, 16, 901, 0, 1, (SEGMENTS,) + data))
        self.assertEqual(self.host.endpoint.accept().read(), (5, 6))

    def test_take_waits_for_all_parts(self):
        found = self.heard("b")
        self.host.take(Packet(1, 2, 16, 900, 2, 1, (8, 9)))
        self.assertEqual(found, [])
        self.host.take(Packet(1, 2, 16, 900, 0, 0, (SEGMENTS, 7)))
        self.assertEqual(found, [(1, (7, 8, 9))])

    def test_parts_that_wait_too_long_are_left_out(self):
        found = self.heard("b")
        self.host.take(Packet(1, 2, 16, 900, 2, 1, (8, 9)))
        for _ in range(40):
            self.host.tick()
        self.host.take(Packet(1, 2, 16, 900, 0, 0, (SEGMENTS, 7)))
        self.assertEqual(found, [])


class TickTest(HostCase):
    def test_the_order_within_a_tick(self):
        (link,) = self.build("ab")
        self.learn(5)
        self.empty()
        host = self.hosts["a"]
        host.endpoint.connect(2).send((1,))

        def look():
            kinds = [packet.body[0] for _, packet in packets_on(link)]
            return (host.clock, kinds)

        first, second = Recorder(look), Recorder(lambda: list(first.seen))
        host.runs.append(first)
        host.runs.append(second)
        host.tick()
        # At tick 6 the ways are told ahead of what runs, and streams behind it.
        self.assertEqual(first.seen, [(6, [WAYS])])
        self.assertEqual(second.seen, [[(6, [WAYS])]])
        self.assertEqual(look(), (6, [WAYS, SEGMENTS]))

    def test_parts_are_looked_at_ahead_of_ways_and_runs(self):
        self.build("ab")
        host = self.hosts["a"]
        host.take(Packet(2, 1, 16, 900, 2, 1, (8, 9)))
        run = Recorder(lambda: len(host.assembler.waiting))
        host.runs.append(run)
        for _ in range(41):
            host.tick()
        self.assertEqual((run.seen[38], run.seen[39]), (1, 0))

    def test_what_a_run_sends_on_a_stream_goes_at_once(self):
        (link,) = self.build("ab")
        self.learn(3)
        self.empty()
        host = self.hosts["a"]
        stream = host.endpoint.connect(2)
        host.runs.append(Recorder(lambda: stream.send((len(host.runs),)) if host.clock == 4 else None))
        host.tick()
        ((_, packet),) = packets_on(link)
        self.assertEqual(read_segment(packet.body[1:])[7], (1,))

    def test_a_run_may_add_another_one(self):
        self.build("ab")
        host = self.hosts["a"]
        other = Recorder()
        host.runs.append(Recorder(lambda: host.runs.append(other) if host.clock == 1 else None))
        host.tick()
        host.tick()
        self.assertLessEqual(len(other.seen), 2)
        self.assertGreaterEqual(len(other.seen), 1)


class Watcher:
    """A guard that writes down what it saw."""

    def __init__(self, answer=True):
        self.seen = []
        self.answer = answer

    def lets(self, data, run):
        self.seen.append((data, run))
        return self.answer


class KnownFramesTest(HostCase):
    """Frames that a host of the network made are not read anew; what comes of them is the same."""

    def made(self):
        """Return the bytes of a frame from a to b that was made in the network, and what b's streams heard so far."""
        self.build("ab")
        self.learn()
        self.empty()
        self.hosts["a"].send(2, SEGMENTS, (7, 8))
        return self.net.links[0].on_way[0][1], self.heard("b")

    def test_a_known_frame_is_found_as_long_as_it_is_not_forgotten(self):
        known = KnownFrames()
        rows = [frame(Packet(1, 2, 16, number, 0, 1, (SEGMENTS,) * 20)) for number in range(1300)]
        self.assertIsNone(known.find(rows[0]))
        for number, data in enumerate(rows):
            known.note(data, (number,), number)
            self.assertEqual(known.find(data), (data, (number,), number))
            self.assertIsNone(known.find(data[:-1]))
            self.assertIsNone(known.find(data[:20] + (9,) + data[21:]))
            self.assertLessEqual(len(known.rows), 500)
        self.assertIsNone(known.find(rows[0]))

    def test_a_frame_that_comes_twice_is_taken_twice(self):
        data, found = self.made()
        for _ in range(2):
            self.hosts["b"].receive(1, data)
        self.assertEqual((found, self.hosts["b"].damaged), ([(1, (7, 8))] * 2, 0))

    def test_a_frame_that_is_not_known_is_read(self):
        data, found = self.made()
        self.net.known.rows.clear()
        self.hosts["b"].receive(1, data)
        self.assertEqual((found, self.hosts["b"].damaged), ([(1, (7, 8))], 0))

    def test_a_known_frame_behind_the_beginning_of_another_one(self):
        data, found = self.made()
        host = self.hosts["b"]
        host.receive(1, (126, 5, 6, 7))
        host.receive(1, data)
        self.assertEqual((found, host.damaged), ([(1, (7, 8))], 1))
        host.receive(1, data[:5])
        host.receive(1, data[5:])
        self.assertEqual((found, host.damaged), ([(1, (7, 8))] * 2, 1))

    def test_a_bent_frame_is_damaged(self):
        data, found = self.made()
        for place in range(1, len(data) - 1):
            self.hosts["b"].receive(1, data[:place] + ((data[place] + 1) % 120,) + data[place + 1:])
            self.assertEqual(self.hosts["b"].damaged, place)
        self.assertEqual(found, [])

    def test_a_guard_sees_known_frames_too(self):
        data, found = self.made()
        guard = Watcher(False)
        self.hosts["b"].guard_by(guard)
        self.hosts["b"].receive(1, data)
        guard.answer = True
        self.hosts["b"].receive(1, data)
        self.assertEqual(found, [(1, (7, 8))])
        self.assertEqual(guard.seen, [(payload, run_filter) for payload in payloads_in(data)] * 2)

    def test_a_guards_rows_are_looked_at_again_once_they_are_others(self):
        data, found = self.made()
        guard = Guard(compiled(parse_rules("accept")))
        self.hosts["b"].guard_by(guard)
        self.hosts["b"].receive(1, data)
        self.assertEqual(len(found), 1)
        for rows, word in (((), "no rows"), ((("jump", 0),), "jump"), ((("go",),), "no row")):
            guard.rows = rows
            with self.assertRaises(FilterError) as caught:
                self.hosts["b"].receive(1, data)
            self.assertEqual(caught.exception.word, word)
        guard.rows = (("drop",),)
        self.hosts["b"].receive(1, data)
        self.assertEqual((len(found), guard.accepted, guard.dropped), (1, 1, 1))


class GuardTest(HostCase):
    def test_a_guard_sees_each_packets_bytes_before_they_are_read(self):
        self.build("ab", "bc")
        self.learn()
        self.empty()
        host = self.hosts["b"]
        guard = Watcher(False)
        host.guard_by(guard)
        self.assertIs(host.guard, guard)
        found = self.heard("b")
        own = packet_bytes(Packet(1, 2, 16, 900, 0, 1, (SEGMENTS, 7)))
        other = packet_bytes(Packet(1, 3, 16, 901, 0, 1, (SEGMENTS, 7)))
        for data in (own, other, (1, 2)):
            host.receive(1, frame_bytes(data))
        self.assertEqual(guard.seen, [(own, run_filter), (other, run_filter), ((1, 2), run_filter)])
        self.assertEqual((found, host.damaged, [link.on_way for link in self.net.links]), ([], 0, [[], []]))

    def test_what_a_guard_lets_through_goes_on(self):
        self.build("ab", "bc")
        self.learn()
        self.empty()
        host = self.hosts["b"]
        host.guard_by(Watcher(True))
        found = self.heard("b")
        host.receive(1, frame(Packet(1, 2, 16, 900, 0, 1, (SEGMENTS, 7))))
        host.receive(1, frame(Packet(1, 3, 16, 901, 0, 1, (SEGMENTS, 7))))
        host.receive(1, frame_bytes((1, 2)))
        self.assertEqual((found, host.damaged), ([(1, (7,))], 1))
        self.assertEqual(len(packets_on(self.net.links[1])), 1)

    def test_damaged_frames_are_no_packets_for_a_guard(self):
        self.build("ab")
        guard = Watcher()
        self.hosts["b"].guard_by(guard)
        data = list(frame_bytes((1, 2, 3)))
        data[2] = 99
        self.hosts["b"].receive(1, tuple(data))
        self.assertEqual((guard.seen, self.hosts["b"].damaged), ([], 1))

    def test_own_packets_are_not_looked_at(self):
        self.build("ab")
        self.learn(3)
        guard = Watcher(False)
        self.hosts["a"].guard_by(guard)
        self.empty()
        self.hosts["a"].send(2, SEGMENTS, (7,))
        self.assertEqual((guard.seen, len(packets_on(self.net.links[0]))), ([], 1))

    def test_none_for_nobody(self):
        self.build("ab")
        guard = Watcher(False)
        self.hosts["b"].guard_by(guard)
        self.hosts["b"].guard_by(None)
        found = self.heard("b")
        self.hosts["b"].receive(1, frame(Packet(1, 2, 16, 900, 0, 1, (SEGMENTS, 7))))
        self.assertEqual((found, guard.seen), ([(1, (7,))], []))

    def test_a_guard_of_rules_in_between(self):
        self.build("ab", "bc")
        self.learn()
        self.empty()
        guard = Guard(compiled(parse_rules("accept from 1 to 3 most 2; drop from 1 to 3; accept")))
        self.hosts["b"].guard_by(guard)
        found = self.heard("c")
        for number in range(5):
            self.hosts["a"].send(3, SEGMENTS, (number,))
        for end, data, _ in list(self.net.links[0].on_way):
            self.hosts["b"].receive(1, data)
        self.learn(1)
        self.assertEqual(found, [(1, (0,)), (1, (1,))])
        self.assertEqual(guard.cells[0], 2)


class ServiceTest(HostCase):
    def test_bodies_of_other_classes_go_to_those_who_take_them(self):
        self.build("ab")
        self.learn(3)

        class Taker:
            def __init__(self):
                self.seen = []

            def take(self, source, data):
                self.seen.append((source, data))

        one, two, other = Taker(), Taker(), Taker()
        host = self.hosts["b"]
        host.add_service(NAMES, one)
        host.add_service(NAMES, two)
        host.add_service(77, other)
        self.hosts["a"].send(2, NAMES, (1, 2))
        self.hosts["a"].send(2, 77, ())
        self.learn(1)
        self.assertEqual((one.seen, two.seen, other.seen), ([(1, (1, 2))], [(1, (1, 2))], [(1, ())]))


class ChanceTest(HostCase):
    def test_bodies_that_come_over_bad_links_are_whole(self):
        self.build(("ab", 20), ("bc", 30))
        self.learn()
        found = self.heard("c")
        chance = random.Random(3)
        sent = {}
        for number in range(150):
            data = (number,) + tuple([chance.randrange(256) for _ in range(chance.randrange(90))])
            sent[number] = data
            self.hosts["a"].send(3, SEGMENTS, data)
            for _ in range(40):
                self.net.act(2 + 8 * chance.randrange(10 ** 9))
        self.assertGreater(len(found), 20)
        for source, data in found:
            self.assertEqual((source, sent[data[0]]), (1, data))
        self.assertGreater(self.hosts["b"].damaged + self.hosts["c"].damaged, 0)


if __name__ == "__main__":
    unittest.main()
