import random
import unittest

from wirestack.errors import SocketError
from wirestack.streams import DATA, OPEN, REFUSED, Endpoint, Stream, read_segment, segment_bytes

KIND, OPENER, NUMBER, PLACE, TOLD, ROOM, LAST, BYTES = range(8)


def some_bytes(many, seed=1):
    chance = random.Random(seed)
    return tuple(chance.randrange(256) for _ in range(many))


def segments_of(rows):
    return [read_segment(data) for _, data in rows]


class Pair:
    """Two endpoints, 1 and 2, and what goes between them."""

    def __init__(self, listening=True):
        self.one = Endpoint(1)
        self.two = Endpoint(2)
        if listening:
            self.two.listen()
        self.seen = []

    def outgoing(self):
        rows = []
        for source, end in ((1, self.one), (2, self.two)):
            end.tick()
            rows.extend((source, target, data) for target, data in end.take_outbox())
        return rows

    def arrive(self, row):
        source, target, data = row
        self.seen.append((source, read_segment(data)))
        (self.one if target == 1 else self.two).receive(source, data)

    def go(self, ticks=1):
        for _ in range(ticks):
            for row in self.outgoing():
                self.arrive(row)

    def opened(self):
        stream = self.one.connect(2)
        self.go()
        return stream, self.two.accept()


class SegmentTest(unittest.TestCase):
    def test_kinds(self):
        self.assertEqual((OPEN, DATA, REFUSED), (1, 2, 3))

    def test_a_segment_reckoned_by_hand(self):
        self.assertEqual(segment_bytes((DATA, 258, 3, 300, 5, 400, 1, (7, 8))),
                         (2, 1, 2, 3, 172, 2, 5, 144, 3, 1, 2, 7, 8))

    def test_segments_come_back(self):
        for segment in ((OPEN, 0, 0, 0, 0, 0, 0, ()), (DATA, 65535, 127, 128, 10 ** 9, 400, 1, some_bytes(100)),
                        (REFUSED, 9, 2 ** 62 - 1, 2 ** 62 - 1, 2 ** 62 - 1, 1, 0, (0,))):
            self.assertEqual(read_segment(segment_bytes(segment)), segment)

    def test_bytes_that_are_no_segment_are_refused(self):
        data = segment_bytes((DATA, 258, 3, 300, 5, 400, 1, (7, 8)))
        for many in range(len(data)):
            with self.assertRaises(SocketError):
                read_segment(data[:many])
        for other in (data + (0,), (0,) + data[1:], (4,) + data[1:], (130, 0) + data[1:], data[:9] + (2,) + data[10:]):
            with self.assertRaises(SocketError):
                read_segment(other)


class FairTest(unittest.TestCase):
    def test_bytes_go_both_ways_with_their_ends(self):
        for many, back in ((0, 0), (1, 0), (0, 1), (100, 101), (400, 401), (5000, 1234)):
            pair = Pair()
            stream, other = pair.opened()
            there, here = some_bytes(many), some_bytes(back, 2)
            stream.send(there)
            stream.close()
            other.send(here)
            other.close()
            found = {1: (), 2: ()}
            for _ in range(200):
                pair.go()
                found[2] += other.read()
                found[1] += stream.read()
            self.assertEqual((found[2], found[1]), (there, here))
            for side in (stream, other):
                self.assertTrue(side.is_over() and side.is_done())
                self.assertEqual((side.state, side.fault), ("closed", None))

    def test_both_sides_know_whom_the_stream_is_with(self):
        pair = Pair()
        stream, other = pair.opened()
        self.assertEqual((stream.peer, other.peer), (2, 1))
        self.assertEqual((stream.opener, other.opener), (1, 1))
        self.assertEqual(stream.number, other.number)
        self.assertEqual((stream.key(), other.key()), ((1, stream.number),) * 2)

    def test_a_stream_is_opening_until_it_is_answered(self):
        pair = Pair()
        stream = pair.one.connect(2)
        self.assertEqual((stream.state, stream.fault), ("opening", None))
        for row in pair.outgoing():
            self.assertEqual(read_segment(row[2])[KIND], OPEN)
            pair.arrive(row)
        self.assertEqual(stream.state, "opening")
        self.assertEqual(pair.two.accept().state, "open")
        pair.go()
        self.assertEqual(stream.state, "open")

    def test_streams_are_accepted_in_order_and_once(self):
        pair = Pair()
        self.assertIsNone(pair.two.accept())
        streams = [pair.one.connect(2) for _ in range(3)]
        pair.go(20)
        self.assertEqual([pair.two.accept().key() for _ in range(3)], [stream.key() for stream in streams])
        self.assertIsNone(pair.two.accept())
        self.assertEqual(len({stream.number for stream in streams}), 3)

    def test_several_streams_go_side_by_side(self):
        pair = Pair()
        pair.one.listen()
        rows = [pair.one.connect(2) for _ in range(3)] + [pair.two.connect(1) for _ in range(3)]
        for seed, stream in enumerate(rows):
            stream.send(some_bytes(300, seed))
        pair.go(30)
        for seed, stream in enumerate(rows):
            other = (pair.two if seed < 3 else pair.one).accept()
            self.assertEqual((other.key(), other.read()), (stream.key(), some_bytes(300, seed)))

    def test_bytes_are_read_in_the_pieces_that_are_asked_for(self):
        pair = Pair()
        stream, other = pair.opened()
        stream.send((1, 2, 3))
        stream.send((4, 5))
        pair.go(3)
        self.assertEqual([other.read(2), other.read(0), other.read(1), other.read(9), other.read()],
                         [(1, 2), (), (3,), (4, 5), ()])

    def test_segments_have_at_most_100_bytes(self):
        pair = Pair()
        stream, other = pair.opened()
        stream.send(some_bytes(3000))
        other.send(some_bytes(500, 2))
        found = ()
        for _ in range(60):
            pair.go()
            found += other.read()
            stream.read()
        self.assertEqual(found, some_bytes(3000))
        sizes = [len(segment[BYTES]) for _, segment in pair.seen]
        self.assertEqual(max(sizes), 100)

    def test_nothing_is_sent_where_nothing_is_new(self):
        pair = Pair()
        stream, other = pair.opened()
        stream.send((1, 2, 3))
        pair.go(6)
        other.read()
        pair.go(6)
        for _ in range(100):
            self.assertEqual(pair.outgoing(), [])

    def test_a_stream_tells_by_its_segments_what_it_sends(self):
        stream = Stream(7, 3, 9, "open")
        self.assertEqual((stream.peer, stream.opener, stream.number, stream.state, stream.fault), (7, 3, 9, "open", None))
        stream.send((1, 2, 3))
        rows = stream.tick()
        self.assertIsInstance(rows, list)
        self.assertEqual(rows, [(DATA, 3, 9, 0, 0, 400, 0, (1, 2, 3))])
        self.assertEqual(stream.tick(), [])
        stream.close()
        self.assertEqual([row[3:] for row in stream.tick()], [(3, 0, 400, 1, ())])

    def test_taking_the_outbox_empties_it(self):
        pair = Pair()
        self.assertEqual(pair.one.address, 1)
        pair.one.connect(2)
        pair.one.tick()
        self.assertEqual([row[0] for row in pair.one.take_outbox()], [2])
        self.assertEqual(pair.one.take_outbox(), [])


class UnfairTest(unittest.TestCase):
    def run_pair(self, seed, loss, double, stay):
        chance = random.Random(seed)
        pair = Pair()
        stream = pair.one.connect(2)
        there, here = some_bytes(chance.randrange(1500), seed), some_bytes(chance.randrange(1500), seed + 1)
        stream.send(there)
        stream.close()
        other, on_way, found = None, [], {1: (), 2: ()}
        for _ in range(3000):
            on_way.extend(pair.outgoing())
            chance.shuffle(on_way)
            rows, on_way = on_way, []
            for row in rows:
                if chance.random() < stay:
                    on_way.append(row)
                elif chance.random() >= loss:
                    pair.arrive(row)
                    if chance.random() < double:
                        on_way.append(row)
            if other is None:
                other = pair.two.accept()
                if other is not None:
                    other.send(here)
                    other.close()
                continue
            found[2] += other.read(chance.randrange(300))
            found[1] += stream.read(chance.randrange(300))
            self.assertEqual(found[2], there[:len(found[2])])
            self.assertEqual(found[1], here[:len(found[1])])
            if stream.is_done():
                self.assertEqual(found[2] + other.read(), there)
                found[2] = there
            if other.is_done():
                self.assertEqual(found[1] + stream.read(), here)
                found[1] = here
            self.assertTrue(not other.is_over() or found[2] == there)
            self.assertTrue(not stream.is_over() or found[1] == here)
            if {stream.state, other.state} <= {"closed", "failed"}:
                break
        return stream, other, found[2] == there and found[1] == here

    def test_segments_come_late_lost_and_doubled(self):
        for seed in range(40):
            for loss, double, stay in ((0.25, 0.2, 0.4), (0, 0, 0.7), (0, 0.6, 0.2), (0.3, 0, 0)):
                stream, other, whole = self.run_pair(seed, loss, double, stay)
                self.assertEqual((stream.state, other.state, whole), ("closed", "closed", True))

    def test_what_is_read_is_a_beginning_even_where_most_is_lost(self):
        for seed in range(40):
            self.run_pair(seed, 0.85, 0.3, 0.3)

    def test_parts_are_read_in_order_whatever_the_order_they_come_in(self):
        data = some_bytes(50)
        for seed in range(30):
            chance = random.Random(seed)
            end = Endpoint(2)
            end.listen()
            rows = []
            for place in range(50):
                size = chance.randrange(1, 12)
                rows.append((OPEN, 1, 1, place, 0, 400, 1 if place + size >= 50 else 0, data[place:place + size]))
            rows = rows * 2
            chance.shuffle(rows)
            found = ()
            stream = None
            for row in rows:
                end.receive(1, segment_bytes(row))
                stream = stream or end.accept()
                found += stream.read(chance.randrange(9))
                self.assertEqual(found, data[:len(found)])
            self.assertEqual(found + stream.read(), data)
            self.assertTrue(stream.is_over())


class RoomTest(unittest.TestCase):
    def test_no_more_goes_than_the_other_side_has_room_for(self):
        pair = Pair()
        stream, other = pair.opened()
        data = some_bytes(1000)
        stream.send(data)
        pair.go(20)
        self.assertEqual(max(row[PLACE] + len(row[BYTES]) for source, row in pair.seen if source == 1), 401)
        self.assertEqual([row[TOLD:LAST] for source, row in pair.seen if source == 2][-1], (400, 0))
        self.assertEqual(other.read(), data[:400])
        self.assertEqual(other.read(), ())
        found = data[:400]
        for _ in range(100):
            pair.go()
            found += other.read(50)
        self.assertEqual(found, data)

    def test_the_room_that_is_told_is_kept_to(self):
        for room in (1, 7, 100, 150, 399):
            stream = Stream(7, 3, 9, "opening")
            end = Endpoint(3)
            stream = end.connect(7)
            end.tick()
            end.take_outbox()
            end.receive(7, segment_bytes((DATA, 3, stream.number, 0, 0, room, 0, ())))
            stream.send(some_bytes(1000))
            end.tick()
            sent = segments_of(end.take_outbox())
            self.assertEqual(max(row[PLACE] + len(row[BYTES]) for row in sent), room)
            end.receive(7, segment_bytes((DATA, 3, stream.number, 0, room, 30, 0, ())))
            end.tick()
            sent = segments_of(end.take_outbox())
            self.assertEqual(max(row[PLACE] + len(row[BYTES]) for row in sent), room + 30)
            self.assertEqual(min(row[PLACE] for row in sent), room)

    def test_at_least_one_byte_goes(self):
        end = Endpoint(3)
        stream = end.connect(7)
        end.tick()
        end.take_outbox()
        end.receive(7, segment_bytes((DATA, 3, stream.number, 0, 0, 0, 0, ())))
        stream.send((5, 6, 7))
        sent = []
        for _ in range(20):
            end.tick()
            sent.extend(segments_of(end.take_outbox()))
        self.assertEqual({row[PLACE:] for row in sent}, {(0, 0, 400, 0, (5,))})

    def test_bytes_beyond_the_room_are_left_out(self):
        end = Endpoint(2)
        end.listen()
        data = some_bytes(500)
        for place in (0, 100, 200, 300, 350, 400):
            end.receive(1, segment_bytes((OPEN, 1, 1, place, 0, 400, 0, data[place:place + 100])))
        stream = end.accept()
        end.tick()
        self.assertEqual(segments_of(end.take_outbox())[-1][TOLD:LAST], (400, 0))
        self.assertEqual((stream.read(10), stream.read()), (data[:10], data[10:400]))
        self.assertEqual(stream.read(), ())
        end.receive(1, segment_bytes((DATA, 1, 1, 400, 0, 400, 0, data[400:])))
        self.assertEqual(stream.read(), data[400:])

    def test_bytes_far_ahead_are_left_out(self):
        end = Endpoint(2)
        end.listen()
        end.receive(1, segment_bytes((OPEN, 1, 1, 0, 0, 400, 0, ())))
        stream = end.accept()
        end.receive(1, segment_bytes((DATA, 1, 1, 400, 0, 400, 0, (9,) * 50)))
        end.receive(1, segment_bytes((DATA, 1, 1, 350, 0, 400, 0, (8,) * 100)))
        for place in range(0, 350, 50):
            end.receive(1, segment_bytes((DATA, 1, 1, place, 0, 400, 0, (7,) * 50)))
        self.assertEqual(stream.read(), (7,) * 350 + (8,) * 50)
        self.assertEqual(stream.read(), ())

    def test_room_that_opens_is_told(self):
        end = Endpoint(2)
        end.listen()
        end.receive(1, segment_bytes((OPEN, 1, 1, 0, 0, 400, 0, some_bytes(100))))
        stream = end.accept()
        end.tick()
        self.assertEqual(segments_of(end.take_outbox())[-1][TOLD:LAST], (100, 300))
        stream.read(60)
        end.tick()
        self.assertEqual(segments_of(end.take_outbox())[-1][TOLD:LAST], (100, 360))


class WaitTest(unittest.TestCase):
    def sent_at(self, end, ticks):
        found = []
        for tick in range(ticks):
            end.tick()
            rows = end.take_outbox()
            if rows != []:
                found.append((tick, segments_of(rows)))
        return found

    def test_all_is_sent_again_after_6_12_24_48_and_48_ticks(self):
        end = Endpoint(1)
        stream = end.connect(2)
        stream.send(some_bytes(250))
        stream.close()
        rows = self.sent_at(end, 1000)
        ticks = [tick for tick, _ in rows]
        self.assertEqual(ticks, [0, 6, 18, 42, 90, 138, 186, 234, 282, 330, 378])
        for _, segments in rows:
            self.assertEqual([row[PLACE:] for row in segments],
                             [(0, 0, 400, 0, some_bytes(250)[:100]), (100, 0, 400, 0, some_bytes(250)[100:200]),
                              (200, 0, 400, 1, some_bytes(250)[200:])])

    def test_a_stream_times_out_after_ten_times(self):
        end = Endpoint(1)
        stream = end.connect(2)
        rows = self.sent_at(end, 379)
        self.assertEqual((len(rows), stream.state, stream.fault), (11, "opening", None))
        self.assertEqual(self.sent_at(end, 400), [])
        self.assertEqual((stream.state, stream.fault), ("failed", "timed out"))
        self.assertFalse(stream.is_done() or stream.is_over())

    def test_an_open_stream_times_out_too_and_what_came_can_be_read(self):
        pair = Pair()
        stream, other = pair.opened()
        other.send((4, 5, 6))
        pair.go(3)
        stream.send((1, 2, 3))
        for _ in range(500):
            pair.outgoing()
        self.assertEqual((stream.state, stream.fault), ("failed", "timed out"))
        self.assertEqual((other.state, other.fault), ("open", None))
        self.assertEqual((stream.read(), stream.is_done()), ((4, 5, 6), False))

    def test_an_end_that_is_not_heard_is_sent_again(self):
        pair = Pair()
        stream, other = pair.opened()
        pair.go(3)
        stream.close()
        rows = self.sent_at(pair.one, 30)
        self.assertEqual([tick for tick, _ in rows], [0, 6, 18])
        self.assertTrue(all(row[LAST] == 1 for _, segments in rows for row in segments))
        self.assertFalse(stream.is_done())

    def test_new_bytes_heard_of_begin_the_waits_anew(self):
        end = Endpoint(1)
        stream = end.connect(2)
        stream.send((1, 2, 3, 4))
        self.assertEqual([tick for tick, _ in self.sent_at(end, 30)], [0, 6, 18])
        end.receive(2, segment_bytes((DATA, 1, stream.number, 0, 2, 400, 0, ())))
        rows = self.sent_at(end, 60)
        self.assertEqual({row[PLACE:] for _, segments in rows for row in segments}, {(2, 0, 400, 0, (3, 4))})
        gaps = [other[0] - one[0] for one, other in zip(rows, rows[1:])]
        self.assertEqual(gaps[:2], [12, 24])

    def test_an_open_stream_may_be_sent_again_ten_times_behind_new_bytes_heard_of(self):
        end = Endpoint(1)
        stream = end.connect(2)
        end.tick()
        end.receive(2, segment_bytes((DATA, 1, stream.number, 0, 0, 400, 0, ())))
        stream.send((1, 2, 3, 4))
        end.take_outbox()
        for told in (1, 2, 3):
            rows = self.sent_at(end, 335)
            self.assertGreaterEqual(len(rows), 9)
            gaps = [other[0] - one[0] for one, other in zip(rows, rows[1:])]
            self.assertEqual(gaps[-1], 48)
            self.assertIn(12, gaps)
            self.assertEqual(stream.state, "open")
            end.receive(2, segment_bytes((DATA, 1, stream.number, 0, told, 400, 0, ())))
        self.sent_at(end, 500)
        self.assertEqual((stream.state, stream.fault), ("failed", "timed out"))

    def test_an_answer_to_the_opening_begins_the_waits_anew(self):
        end = Endpoint(1)
        stream = end.connect(2)
        self.assertEqual([tick for tick, _ in self.sent_at(end, 20)], [0, 6, 18])
        end.receive(2, segment_bytes((DATA, 1, stream.number, 0, 0, 400, 0, ())))
        stream.send((1, 2, 3, 4))
        self.assertEqual([tick for tick, _ in self.sent_at(end, 20)], [0, 6, 18])

    def test_what_is_sent_after_a_silence_waits_anew(self):
        pair = Pair()
        stream, other = pair.opened()
        pair.go(3)
        for _ in range(2):
            stream.send((1,))
            self.assertEqual([tick for tick, _ in self.sent_at(pair.one, 20)], [0, 6, 18])
            stream.send((2,))
            pair.go(60)
            self.assertEqual(other.read(), (1, 2))
            pair.go(10)

    def test_an_opening_that_comes_again_is_answered_again(self):
        end = Endpoint(2)
        end.listen()
        for _ in range(3):
            end.receive(1, segment_bytes((OPEN, 1, 1, 0, 0, 400, 0, ())))
            self.assertEqual([[row[:TOLD + 1] for row in rows] for _, rows in self.sent_at(end, 3)], [[(DATA, 1, 1, 0, 0)]])

    def test_bytes_that_come_again_are_answered_again(self):
        end = Endpoint(2)
        end.listen()
        for _ in range(3):
            end.receive(1, segment_bytes((OPEN, 1, 1, 0, 0, 400, 1, (7, 8))))
            self.assertEqual([[row[TOLD] for row in rows] for _, rows in self.sent_at(end, 3)], [[3]])

    def test_a_stream_that_is_done_but_not_over_waits_for_ever(self):
        pair = Pair()
        stream, other = pair.opened()
        stream.send((1, 2))
        stream.close()
        pair.go(5)
        self.assertEqual((other.read(), stream.is_done()), ((1, 2), True))
        for _ in range(600):
            self.assertEqual(pair.outgoing(), [])
        self.assertEqual((stream.state, other.state), ("open", "open"))
        other.send((3,))
        other.close()
        pair.go(5)
        self.assertEqual(stream.read(), (3,))
        pair.go(5)
        self.assertEqual((stream.state, other.state), ("closed", "closed"))

    def test_reading_nothing_tells_nothing(self):
        pair = Pair()
        stream, other = pair.opened()
        pair.go(5)
        for _ in range(20):
            self.assertEqual((stream.read(), other.read(), pair.outgoing()), ((), (), []))

    def test_hearing_the_same_again_does_not(self):
        end = Endpoint(1)
        stream = end.connect(2)
        end.tick()
        end.receive(2, segment_bytes((DATA, 1, stream.number, 0, 0, 400, 0, ())))
        stream.send((1, 2, 3, 4))
        found = []
        for tick in range(50):
            end.tick()
            found.extend(tick for row in segments_of(end.take_outbox()) if row[BYTES] != ())
            end.receive(2, segment_bytes((DATA, 1, stream.number, 0, 0, 400, 0, ())))
        self.assertEqual(found, [0, 6, 18, 42])

    def test_a_silent_stream_never_times_out(self):
        pair = Pair()
        stream, other = pair.opened()
        stream.send((1,))
        pair.go(1000)
        self.assertEqual((stream.state, other.state), ("open", "open"))


class RefusedTest(unittest.TestCase):
    def test_a_stream_is_refused_where_nobody_listens(self):
        pair = Pair(listening=False)
        self.assertFalse(pair.two.listening)
        stream = pair.one.connect(2)
        stream.send((1, 2))
        pair.go(2)
        self.assertEqual((stream.state, stream.fault), ("failed", "refused"))
        self.assertIsNone(pair.two.accept())
        self.assertIn(REFUSED, [row[KIND] for source, row in pair.seen if source == 2])
        self.assertFalse(stream.is_done())

    def test_a_refused_stream_sends_and_hears_no_more(self):
        pair = Pair(listening=False)
        stream = pair.one.connect(2)
        rows = pair.outgoing()
        stream.send((5, 6))
        pair.arrive(rows[0])
        for target, data in pair.two.take_outbox():
            pair.one.receive(2, data)
        self.assertEqual(stream.fault, "refused")
        pair.one.receive(2, segment_bytes((DATA, 1, stream.number, 0, 0, 400, 1, (9, 9))))
        self.assertEqual((stream.read(), stream.is_over(), stream.state), ((), False, "failed"))
        pair.one.tick()
        self.assertEqual([row for row in pair.one.take_outbox() if read_segment(row[1])[BYTES] != ()], [])

    def test_a_host_that_begins_to_listen_takes_later_streams(self):
        pair = Pair(listening=False)
        pair.one.connect(2)
        pair.go(2)
        pair.two.listen()
        self.assertTrue(pair.two.listening)
        stream, other = pair.opened()
        pair.go(2)
        self.assertEqual((stream.state, other.key()), ("open", stream.key()))

    def test_an_open_stream_is_not_refused_any_more(self):
        pair = Pair()
        stream, other = pair.opened()
        pair.go(2)
        pair.one.receive(2, segment_bytes((REFUSED, 1, stream.number, 0, 0, 0, 0, ())))
        self.assertEqual((stream.state, stream.fault), ("open", None))

    def test_what_tells_of_a_stream_that_nobody_opened_is_left_out(self):
        pair = Pair()
        for kind in (DATA, REFUSED):
            pair.two.receive(1, segment_bytes((kind, 1, 5, 0, 0, 400, 0, (1,))))
            pair.two.receive(1, segment_bytes((kind, 2, 5, 0, 0, 400, 0, (1,))))
        self.assertIsNone(pair.two.accept())


class SendTest(unittest.TestCase):
    def test_a_closed_stream_takes_no_more_bytes(self):
        pair = Pair()
        stream, other = pair.opened()
        stream.send((1,))
        stream.close()
        with self.assertRaises(SocketError):
            stream.send((2,))
        other.close()
        pair.go(5)
        self.assertEqual(other.read(), (1,))
        pair.go(5)
        for side in (stream, other):
            self.assertEqual(side.state, "closed")
            with self.assertRaises(SocketError):
                side.send((2,))
        self.assertEqual(other.read(), ())

    def test_a_failed_stream_takes_no_more_bytes(self):
        pair = Pair(listening=False)
        stream = pair.one.connect(2)
        pair.go(2)
        with self.assertRaises(SocketError):
            stream.send((2,))
        stream.close()
        self.assertEqual((stream.state, stream.fault), ("failed", "refused"))

    def test_the_other_side_may_send_on_behind_an_end(self):
        pair = Pair()
        stream, other = pair.opened()
        stream.close()
        pair.go(3)
        other.send((1, 2))
        pair.go(3)
        self.assertEqual((stream.read(), other.is_over(), stream.is_over()), ((1, 2), True, False))


class MomentTest(unittest.TestCase):
    def setUp(self):
        self.end = Endpoint(2)
        self.end.listen()
        self.end.receive(1, segment_bytes((OPEN, 1, 1, 0, 0, 400, 0, ())))
        self.stream = self.end.accept()

    def hear(self, place=0, told=0, last=0, data=()):
        self.end.receive(1, segment_bytes((DATA, 1, 1, place, told, 400, last, data)))

    def last_told(self):
        self.end.tick()
        return segments_of(self.end.take_outbox())[-1][TOLD]

    def test_a_stream_is_over_when_the_end_was_heard_and_all_was_read(self):
        self.hear(0, 0, 0, (1, 2))
        self.assertEqual(self.stream.read(), (1, 2))
        self.assertFalse(self.stream.is_over())
        self.hear(4, 0, 1, (5,))
        self.assertEqual((self.stream.read(), self.stream.is_over(), self.last_told()), ((), False, 2))
        self.hear(2, 0, 0, (3, 4))
        self.assertFalse(self.stream.is_over())
        self.assertEqual(self.last_told(), 6)
        self.assertEqual((self.stream.read(2), self.stream.is_over()), ((3, 4), False))
        self.assertEqual((self.stream.read(), self.stream.is_over()), ((5,), True))

    def test_nothing_stands_behind_the_end(self):
        self.hear(0, 0, 1, (1, 2))
        self.assertEqual(self.stream.read(), (1, 2))
        self.hear(2, 0, 0, (3,))
        self.assertEqual((self.stream.read(), self.stream.is_over(), self.last_told()), ((), True, 3))

    def test_an_empty_stream_is_over_at_its_end(self):
        self.assertFalse(self.stream.is_over())
        self.hear(0, 0, 1)
        self.assertTrue(self.stream.is_over())
        self.assertEqual(self.last_told(), 1)

    def test_a_stream_is_done_when_the_other_side_heard_all_and_the_end(self):
        self.stream.send((1, 2, 3))
        self.end.tick()
        self.hear(0, 3)
        self.assertFalse(self.stream.is_done())
        self.stream.close()
        self.assertFalse(self.stream.is_done())
        self.end.tick()
        self.hear(0, 3)
        self.assertFalse(self.stream.is_done())
        self.hear(0, 4)
        self.assertTrue(self.stream.is_done())
        self.assertFalse(self.stream.is_over())

    def test_more_than_was_sent_cannot_have_been_heard(self):
        self.stream.send((1, 2, 3))
        self.end.tick()
        for told in (4, 5, 100):
            self.hear(0, told)
            self.assertFalse(self.stream.is_done())
        self.stream.close()
        self.end.tick()
        self.assertFalse(self.stream.is_done())
        self.hear(0, 5)
        self.assertFalse(self.stream.is_done())

    def test_old_news_change_nothing(self):
        self.stream.send((1, 2, 3))
        self.stream.close()
        self.end.tick()
        self.hear(0, 4)
        for told in (0, 1, 3):
            self.hear(0, told)
            self.assertTrue(self.stream.is_done())


class LetGoTest(unittest.TestCase):
    def finished(self):
        pair = Pair()
        stream, other = pair.opened()
        stream.send((1, 2, 3))
        stream.close()
        other.close()
        for _ in range(10):
            pair.go()
            other.read()
        self.assertEqual((stream.state, other.state), ("closed", "closed"))
        return pair, stream

    def test_a_stream_that_was_let_go_is_still_told_what_it_had_heard(self):
        pair, stream = self.finished()
        pair.two.receive(1, segment_bytes((DATA, 1, stream.number, 0, 0, 400, 1, (1, 2, 3))))
        pair.two.tick()
        rows = pair.two.take_outbox()
        self.assertEqual([(row[0], read_segment(row[1])[:3], read_segment(row[1])[TOLD]) for row in rows],
                         [(1, (DATA, 1, stream.number), 4)])
        pair.one.receive(2, segment_bytes((DATA, 1, stream.number, 0, 5, 400, 1, ())))
        pair.one.tick()
        self.assertEqual([read_segment(row[1])[TOLD] for row in pair.one.take_outbox()], [1])

    def test_it_is_not_opened_again(self):
        pair, stream = self.finished()
        pair.two.receive(1, segment_bytes((OPEN, 1, stream.number, 0, 0, 400, 0, (1, 2, 3))))
        self.assertIsNone(pair.two.accept())
        pair.two.tick()
        self.assertEqual([read_segment(row[1])[TOLD] for row in pair.two.take_outbox()], [4])

    def test_what_only_tells_is_not_answered_and_other_hosts_are_not_told(self):
        pair, stream = self.finished()
        pair.two.receive(1, segment_bytes((DATA, 1, stream.number, 3, 1, 400, 0, ())))
        pair.two.receive(9, segment_bytes((DATA, 1, stream.number, 0, 0, 400, 1, (1, 2, 3))))
        pair.two.tick()
        self.assertEqual(pair.two.take_outbox(), [])

    def test_a_failed_stream_tells_what_it_had_heard_and_hears_no_more(self):
        pair = Pair()
        stream, other = pair.opened()
        other.send((1, 2))
        pair.go(3)
        stream.send((9,))
        for _ in range(500):
            pair.outgoing()
        self.assertEqual(stream.state, "failed")
        pair.one.receive(2, segment_bytes((DATA, 1, stream.number, 2, 0, 400, 1, (3, 4))))
        pair.one.tick()
        self.assertEqual([read_segment(row[1])[TOLD] for row in pair.one.take_outbox()], [2])
        self.assertEqual((stream.read(), stream.is_over()), ((1, 2), False))


class StrangerTest(unittest.TestCase):
    def test_segments_of_other_hosts_are_left_out(self):
        pair = Pair()
        stream, other = pair.opened()
        pair.go(2)
        pair.two.receive(3, segment_bytes((DATA, 1, stream.number, 0, 0, 400, 1, (9, 9))))
        pair.one.receive(3, segment_bytes((DATA, 1, stream.number, 0, 0, 400, 1, (9, 9))))
        self.assertEqual((stream.read(), other.read(), stream.is_over(), other.is_over()), ((), (), False, False))
        stream.send((1, 2))
        stream.close()
        pair.one.tick()
        pair.one.receive(3, segment_bytes((DATA, 1, stream.number, 0, 3, 400, 0, ())))
        self.assertFalse(stream.is_done())

    def test_nobody_opens_a_stream_for_another_host(self):
        pair = Pair()
        pair.two.receive(3, segment_bytes((OPEN, 1, 5, 0, 0, 400, 0, (9,))))
        self.assertIsNone(pair.two.accept())

    def test_nobody_else_refuses_a_stream(self):
        pair = Pair()
        stream = pair.one.connect(2)
        pair.one.tick()
        pair.one.receive(3, segment_bytes((REFUSED, 1, stream.number, 0, 0, 0, 0, ())))
        self.assertEqual((stream.state, stream.fault), ("opening", None))

    def test_streams_of_the_same_number_by_several_openers_are_kept_apart(self):
        end = Endpoint(9)
        end.listen()
        for source in (1, 2):
            end.receive(source, segment_bytes((OPEN, source, 1, 0, 0, 400, 0, (source,))))
        self.assertEqual([(stream.peer, stream.read()) for stream in (end.accept(), end.accept())], [(1, (1,)), (2, (2,))])

    def test_bytes_that_are_no_segment_are_left_out(self):
        pair = Pair()
        stream, other = pair.opened()
        good = segment_bytes((DATA, 1, stream.number, 0, 0, 400, 1, (9, 9)))
        for data in ((), (1, 2, 3), good[:-1], good + (0,), (9,) + good[1:], (255,) * 50):
            pair.two.receive(1, data)
            self.assertEqual((other.read(), other.is_over()), ((), False))
        pair.two.receive(1, good)
        self.assertEqual((other.read(), other.is_over()), ((9, 9), True))


if __name__ == "__main__":
    unittest.main()
