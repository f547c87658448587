import random
import unittest

from wirestack.errors import OctetError
from wirestack.frames import Deframer, frame_bytes, frame_of_summed, payloads_in, stuffed
from wirestack.octets import sum_bytes

MARK = 126
ESCAPE = 125
PAYLOADS = ((7,), (125,), (126,), (125, 126), (126,) * 40, (125, 93, 94, 126) * 10, tuple(range(256)), (126,) * 400,
            (125,) * 400, tuple(range(200)) * 2)


def framed(data):
    return (MARK,) + stuffed(data) + (MARK,)


def fed_in_pieces(data, sizes):
    deframer = Deframer()
    found = ()
    begin = 0
    for size in sizes:
        found = found + deframer.feed(data[begin:begin + size])
        begin += size
    return found + deframer.feed(data[begin:]), deframer.damaged


class FrameBytesTest(unittest.TestCase):
    def test_stuffed_bytes_reckoned_by_hand(self):
        self.assertEqual(stuffed(()), ())
        self.assertEqual(stuffed((1, 93, 94, 127)), (1, 93, 94, 127))
        self.assertEqual(stuffed((125, 126, 0)), (125, 93, 125, 94, 0))

    def test_a_frame_reckoned_by_hand(self):
        self.assertEqual(frame_bytes((1, 2, 3)), (126, 1, 2, 3, 0, 13, 0, 7, 126))
        self.assertEqual(frame_bytes((126,)), (126, 125, 94) + stuffed(sum_bytes((126,))) + (126,))

    def test_no_mark_stands_within_a_frame(self):
        for payload in PAYLOADS:
            data = frame_bytes(payload)
            self.assertIsInstance(data, tuple)
            self.assertEqual((data[0], data[-1]), (MARK, MARK))
            self.assertNotIn(MARK, data[1:-1])
            self.assertEqual(data, framed(payload + sum_bytes(payload)))

    def test_400_bytes_go_and_401_are_refused(self):
        payload = tuple(range(200)) * 2
        self.assertEqual(payloads_in(frame_bytes(payload)), (payload,))
        with self.assertRaises(OctetError):
            frame_bytes(payload + (1,))


    def test_a_frame_of_bytes_that_end_in_their_sum_is_the_frame_of_these_bytes(self):
        for payload in PAYLOADS:
            summed = payload[:396] + sum_bytes(payload[:396])
            self.assertEqual(frame_of_summed(summed), frame_bytes(summed))

    def test_each_mark_and_escape_is_stuffed_byte_by_byte(self):
        chance = random.Random(9)
        for _ in range(300):
            data = tuple(chance.choice((125, 126, 93, 94, 7)) for _ in range(chance.randrange(12)))
            found = []
            for byte in data:
                found.extend((125, byte ^ 32) if byte in (125, 126) else (byte,))
            self.assertEqual(stuffed(data), tuple(found))


class DeframerTest(unittest.TestCase):
    def test_a_frame_can_be_skipped_while_no_other_one_has_begun(self):
        for data, found in (((), True), ((5,), True), ((MARK,), True), ((MARK, 7), False), ((MARK, 7, MARK), True),
                            ((MARK, ESCAPE), False), ((MARK, ESCAPE, MARK), True)):
            deframer = Deframer()
            deframer.feed(data)
            held = deframer.held
            self.assertIs(deframer.skip_frame(), found, data)
            self.assertEqual(deframer.held, [] if found else held)
            self.assertEqual(deframer.feed(frame_bytes((3,))), ((3,),))

    def test_payloads_come_out_in_one_piece(self):
        for payload in PAYLOADS:
            self.assertEqual(payloads_in(frame_bytes(payload)), (payload,))
        row = tuple(byte for payload in PAYLOADS for byte in frame_bytes(payload))
        self.assertEqual(payloads_in(row), PAYLOADS)

    def test_payloads_come_out_byte_by_byte_and_in_pieces_cut_anywhere(self):
        payloads = ((125, 126, 3), (126,) * 5, (9,))
        data = tuple(byte for payload in payloads for byte in frame_bytes(payload))
        self.assertEqual(fed_in_pieces(data, [1] * len(data)), (payloads, 0))
        for cut in range(len(data) + 1):
            self.assertEqual(fed_in_pieces(data, [cut]), (payloads, 0))
        chance = random.Random(3)
        for _ in range(50):
            self.assertEqual(fed_in_pieces(data, [chance.randrange(6) for _ in range(20)]), (payloads, 0))

    def test_a_payload_comes_with_the_mark_that_ends_its_frame(self):
        deframer = Deframer()
        data = frame_bytes((1, 2))
        self.assertEqual(deframer.feed(data[:-1]), ())
        self.assertEqual(deframer.feed(data[-1:]), ((1, 2),))
        self.assertEqual(deframer.feed(()), ())

    def test_what_comes_before_the_first_mark_is_left_out(self):
        for noise in ((1, 2, 3), (125,), (5,) * 900, sum_bytes(())):
            deframer = Deframer()
            self.assertEqual(deframer.feed(noise), ())
            self.assertEqual(deframer.feed(frame_bytes((8, 9))), ((8, 9),))
            self.assertEqual(deframer.damaged, 0)

    def test_two_marks_side_by_side_are_no_frame(self):
        deframer = Deframer()
        self.assertEqual(deframer.feed((MARK,) * 9 + frame_bytes((4,)) + (MARK,) * 3), ((4,),))
        self.assertEqual(deframer.damaged, 0)

    def test_one_mark_ends_a_frame_and_begins_the_next(self):
        data = frame_bytes((1,)) + frame_bytes((2,))[1:]
        deframer = Deframer()
        self.assertEqual(deframer.feed(data), ((1,), (2,)))
        self.assertEqual(deframer.damaged, 0)

    def test_frames_with_a_changed_byte_are_counted_as_damaged(self):
        data = frame_bytes((10, 20, 30, 125, 40))
        follower = frame_bytes((5, 5))
        for place in range(1, len(data) - 1):
            changed = (data[place] + 3) % 256
            if data[place] == ESCAPE or changed in (MARK, ESCAPE):
                continue
            deframer = Deframer()
            self.assertEqual(deframer.feed(data[:place] + (changed,) + data[place + 1:] + follower), ((5, 5),))
            self.assertEqual(deframer.damaged, 1)

    def test_frames_with_a_lost_byte_are_counted_as_damaged(self):
        data = frame_bytes((10, 20, 30, 40, 50))
        for place in range(1, len(data) - 1):
            deframer = Deframer()
            self.assertEqual(deframer.feed(data[:place] + data[place + 1:] + frame_bytes((5,))), ((5,),))
            self.assertEqual(deframer.damaged, 1)

    def test_frames_that_are_cut_are_counted_as_damaged(self):
        data = frame_bytes((10, 20, 30, 40, 50))
        for many in range(2, len(data) - 1):
            deframer = Deframer()
            self.assertEqual(deframer.feed(data[:many] + frame_bytes((5, 6))), ((5, 6),))
            self.assertEqual(deframer.damaged, 1)

    def test_frames_that_end_in_an_escape_are_damaged(self):
        whole = (9, 8)
        for data in (whole + sum_bytes(whole), ()):
            deframer = Deframer()
            self.assertEqual(deframer.feed((MARK,) + data + (ESCAPE, MARK) + frame_bytes((5, 6))), ((5, 6),))
            self.assertEqual(deframer.damaged, 1)

    def test_longer_frames_are_damaged_even_if_their_sum_fits(self):
        for many in (401, 402, 1000):
            payload = (7,) * many
            deframer = Deframer()
            self.assertEqual(deframer.feed(framed(payload + sum_bytes(payload)) + frame_bytes((1,))), ((1,),))
            self.assertEqual(deframer.damaged, 1)

    def test_damaged_frames_are_counted_one_by_one(self):
        deframer = Deframer()
        self.assertEqual(deframer.damaged, 0)
        for count in range(1, 5):
            self.assertEqual(deframer.feed((MARK, 1, 2, 3, 4, 5, 6, MARK)), ())
            self.assertEqual(deframer.damaged, count)
        self.assertEqual(deframer.feed(frame_bytes((3,))), ((3,),))
        self.assertEqual(deframer.damaged, 4)


if __name__ == "__main__":
    unittest.main()
