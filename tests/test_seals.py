import random
import unittest

from wirestack.errors import SealError
from wirestack.octets import blob_bytes
from wirestack.seals import Keys, Seal, mask, mixed, raised, tag_of

PRIME = 2147483647


def mixed_by_hand(*numbers):
    value = 17
    for number in numbers:
        value = pow((48271 * value + number + 1) % PRIME, 2, PRIME) + 3
    return value % (PRIME - 1) + 1


def mask_by_hand(key, serial, many):
    start = mixed_by_hand(key, serial)
    return tuple(start * pow(48271, step, PRIME) % PRIME // 65536 % 256 for step in range(1, many + 1))


def tag_by_hand(key, serial, data):
    total = (serial + 1) * key + sum((byte + 1) * pow(key, place + 2, PRIME) for place, byte in enumerate(data))
    return tuple((total % PRIME).to_bytes(4, "big"))


def pair(one=12345, two=987654):
    """Return two open seals; the first one opened the stream."""
    opener, other = Seal(one, True), Seal(two, False)
    other.feed(opener.hello())
    opener.feed(other.hello())
    return opener, other


def records_of(secret, other_secret, opens, messages, ended=True):
    """Return the records of one side reckoned by hand, from the document alone."""
    own, others = pow(7, secret, PRIME), pow(7, other_secret, PRIME)
    root = mixed_by_hand(pow(7, secret * other_secret, PRIME), *((own, others) if opens else (others, own)))
    label = 1 if opens else 2
    masking, tagging = mixed_by_hand(root, label), mixed_by_hand(root, label, 99)
    rows = []
    for serial, plain in enumerate([(1,) + message for message in messages] + ([(2,)] if ended else [])):
        masked = tuple(one ^ two for one, two in zip(plain, mask_by_hand(masking, serial, len(plain))))
        rows.append(blob_bytes(masked + tag_by_hand(tagging, serial, masked)))
    return rows


class NumberTest(unittest.TestCase):
    def test_raised(self):
        for base, power, number in ((7, 0, 1), (7, 1, 7), (7, 2, 49), (2, 31, 1), (PRIME - 1, 2, 1), (5, PRIME - 1, 1)):
            self.assertEqual(raised(base, power), number)
        chance = random.Random(14)
        for _ in range(50):
            base, power = chance.randrange(1, PRIME), chance.randrange(PRIME)
            self.assertEqual(raised(base, power), pow(base, power, PRIME))

    def test_mixed_reckoned_by_hand(self):
        self.assertEqual(mixed(()), 18)
        self.assertEqual(mixed((0,)), (48271 * 17 + 1) ** 2 % PRIME + 3 + 1)
        self.assertEqual(mixed((5,)), (48271 * 17 + 6) ** 2 % PRIME + 4)
        self.assertEqual(mixed((5, 9)), (48271 * (mixed((5,)) - 1) + 10) ** 2 % PRIME + 4)
        chance = random.Random(15)
        for many in range(6):
            numbers = tuple(chance.randrange(2 ** 33) for _ in range(many))
            self.assertEqual(mixed(numbers), mixed_by_hand(*numbers))
            self.assertTrue(1 <= mixed(numbers) <= PRIME - 1)

    def test_mask_reckoned_by_hand(self):
        first = 48271 * mixed((4, 2)) % PRIME
        second = 48271 * first % PRIME
        self.assertEqual(mask(4, 2, 2), (first // 65536 % 256, second // 65536 % 256))
        self.assertEqual(mask(4, 2, 0), ())
        for key, serial in ((1, 0), (PRIME - 1, 7), (123456789, 300)):
            self.assertEqual(mask(key, serial, 50), mask_by_hand(key, serial, 50))

    def test_tag_reckoned_by_hand(self):
        self.assertEqual(tag_of(10, 0, ()), (0, 0, 0, 10))
        self.assertEqual(tag_of(10, 4, ()), (0, 0, 0, 50))
        self.assertEqual(tag_of(10, 0, (0,)), (0, 0, 0, 110))
        self.assertEqual(tag_of(10, 1, (1, 0)), (0, 0, 4, 196))
        chance = random.Random(16)
        for many in (1, 5, 301):
            key, data = chance.randrange(1, PRIME), tuple(chance.randrange(256) for _ in range(many))
            self.assertEqual(tag_of(key, many, data), tag_by_hand(key, many, data))

    def test_keys_of_a_direction(self):
        for shared, label in ((5, 1), (5, 2), (PRIME - 1, 1)):
            keys = Keys(shared, label)
            self.assertEqual((keys.masking, keys.tagging), (mixed((shared, label)), mixed((shared, label, 99))))


class HelloTest(unittest.TestCase):
    def test_a_hello_is_a_blob_of_3_and_7_raised_to_the_secret(self):
        for secret in (1, 2, 11, PRIME - 2):
            for opens in (True, False):
                self.assertEqual(Seal(secret, opens).hello(),
                                 (5, 3) + tuple(pow(7, secret, PRIME).to_bytes(4, "big")))

    def test_secrets_out_of_bounds_are_refused(self):
        for secret in (0, -1, PRIME - 1, PRIME, 2 ** 40):
            for opens in (True, False):
                with self.assertRaises(SealError):
                    Seal(secret, opens)

    def test_both_sides_come_to_the_same_keys(self):
        chance = random.Random(17)
        for secrets in [(1, 1), (PRIME - 2, 1), (2, PRIME - 2)] + [(chance.randrange(1, PRIME - 1),
                                                                   chance.randrange(1, PRIME - 1)) for _ in range(20)]:
            opener, other = pair(*secrets)
            self.assertEqual((opener.state, other.state), ("open", "open"))
            self.assertEqual(other.feed(opener.send((1, 2, 3))), ((1, 2, 3),))
            self.assertEqual(opener.feed(other.send((4,))), ((4,),))

    def test_records_are_those_that_the_document_tells(self):
        messages = [(), (7,), tuple(range(256)), (5,) * 300]
        for one, two in ((1, 2), (12345, 987654)):
            opener, other = pair(one, two)
            self.assertEqual([opener.send(data) for data in messages] + [opener.end()],
                             records_of(one, two, True, messages))
            self.assertEqual([other.send(data) for data in messages] + [other.end()],
                             records_of(two, one, False, messages))

    def test_sending_before_the_hello_was_answered_is_refused(self):
        for opens in (True, False):
            seal = Seal(5, opens)
            seal.hello()
            with self.assertRaises(SealError):
                seal.send((1,))
            with self.assertRaises(SealError):
                seal.end()
            self.assertFalse(seal.ended)
            seal.feed(Seal(6, not opens).hello())
            self.assertEqual(seal.send((1,)), records_of(5, 6, opens, [(1,)])[0])

    def test_another_record_than_a_hello_is_refused_first(self):
        for data in ((5, 1, 0, 0, 0, 7), (5, 3, 0, 0, 0, 0), (5, 3, 127, 255, 255, 255), (5, 3, 255, 255, 255, 255),
                     (6, 3, 0, 0, 0, 7, 1), (4, 3, 0, 0, 7), (1, 3), (0,), (133, 0, 3, 0, 0, 0, 7)):
            seal = Seal(5, True)
            for _ in range(2):
                with self.assertRaises(SealError):
                    seal.feed(data)
            with self.assertRaises(SealError):
                seal.send((1,))


class FeedTest(unittest.TestCase):
    def test_messages_come_in_order_however_the_bytes_are_cut(self):
        messages = ((1, 2), (), (3,) * 300, (4,), tuple(range(200)))
        opener, other = pair()
        data = sum((opener.send(message) for message in messages), ()) + opener.end()
        chance = random.Random(18)
        for many in [1, 2, 7, 1000] + [None] * 20:
            opener, other = pair()
            found, begin = (), 0
            while begin < len(data):
                step = many or chance.randrange(1, 90)
                found += other.feed(data[begin:begin + step])
                begin += step
            self.assertEqual((found, other.state, other.held), (messages, "over", ()))

    def test_the_hello_may_be_cut_and_followed_at_once(self):
        opener, other = pair()
        data = other.hello() + other.send((8, 9)) + other.end()
        fresh = Seal(12345, True)
        found = ()
        for byte in data:
            found += fresh.feed((byte,))
        self.assertEqual((found, fresh.state), (((8, 9),), "over"))
        fresh = Seal(12345, True)
        self.assertEqual(fresh.feed(data), ((8, 9),))

    def test_bytes_of_a_record_that_is_not_whole_are_held(self):
        opener, other = pair()
        data = opener.send((1, 2, 3))
        self.assertEqual((other.feed(data[:-1]), other.held), ((), data[:-1]))
        self.assertEqual((other.feed(data[-1:]), other.held), (((1, 2, 3),), ()))
        self.assertEqual(other.feed(()), ())

    def test_both_directions_go_on_side_by_side(self):
        opener, other = pair()
        for number in range(20):
            self.assertEqual(other.feed(opener.send((number,))), ((number,),))
            self.assertEqual(opener.feed(other.send((number, 1))), ((number, 1),))

    def check_damaged(self, rows, good):
        """Check that so many messages come, and that the side refuses for good."""
        for at_once in (True, False):
            opener, other = pair()
            found = ()
            try:
                for data in ([sum(rows, ())] if at_once else rows):
                    found += other.feed(data)
                other.feed(())
                self.fail("a damaged stream was not refused")
            except SealError:
                self.assertEqual(found, good)
            for data in ((), opener.send((1,)), rows[0]):
                with self.assertRaises(SealError):
                    other.feed(data)
            for deed in (other.check_over, other.end, lambda: other.send((1,))):
                with self.assertRaises(SealError):
                    deed()

    def setUp(self):
        self.messages = ((10, 11), (20, 21), (30, 31), (40, 41))
        opener, other = pair()
        self.rows = [opener.send(message) for message in self.messages]
        self.end_row = opener.end()

    def test_each_changed_byte_of_a_record_is_refused(self):
        for place in range(1, len(self.rows[2])):
            for change in (1, 128, 255):
                row = self.rows[2]
                bent = row[:place] + ((row[place] + change) % 256,) + row[place + 1:]
                self.check_damaged(self.rows[:2] + [bent, self.rows[3]], self.messages[:2])

    def test_a_changed_length_is_refused(self):
        for length in (0, 1, 4, 5, 6, 8):
            rows = self.rows[:1] + [(length,) + self.rows[1][1:]] + self.rows[2:]
            self.check_damaged(rows, self.messages[:1])

    def test_a_length_that_no_record_has_is_refused_at_once(self):
        for data in ((178, 2), (255, 127), (255, 255), (128, 0), (4,), (0,)):
            self.check_damaged(self.rows[:1] + [data], self.messages[:1])

    def test_a_record_left_out_is_refused(self):
        for place in range(3):
            self.check_damaged(self.rows[:place] + self.rows[place + 1:], self.messages[:place])
        self.check_damaged(self.rows[:3] + [self.end_row], self.messages[:3])

    def test_a_doubled_record_is_refused(self):
        for place in range(4):
            rows = self.rows[:place + 1] + self.rows[place:]
            self.check_damaged(rows, self.messages[:place + 1])
        self.check_damaged(self.rows + [self.end_row, self.end_row], self.messages)

    def test_exchanged_records_are_refused(self):
        one, two, three, four = self.rows
        self.check_damaged([two, one, three, four], ())
        self.check_damaged([one, two, four, three], self.messages[:2])

    def test_own_records_that_come_back_are_refused(self):
        opener, other = pair()
        row = other.send((1, 2))
        with self.assertRaises(SealError):
            other.feed(row)

    def test_records_of_other_secrets_are_refused(self):
        opener, other = pair(12345, 987654)
        stranger = pair(12346, 987654)[0]
        with self.assertRaises(SealError):
            other.feed(stranger.send((1, 2)))

    def test_messages_before_the_damage_are_returned_first(self):
        opener, other = pair()
        self.assertEqual(other.feed(self.rows[0] + self.rows[1] + self.rows[3]), self.messages[:2])
        for _ in range(3):
            with self.assertRaises(SealError):
                other.feed(self.rows[2])

    def test_a_damaged_record_alone_is_refused_then_and_ever_after(self):
        opener, other = pair()
        for _ in range(3):
            with self.assertRaises(SealError):
                other.feed(self.rows[1])


class EndTest(unittest.TestCase):
    def test_300_bytes_go_and_301_are_refused(self):
        opener, other = pair()
        with self.assertRaises(SealError):
            opener.send((1,) * 301)
        self.assertEqual(other.feed(opener.send((1,) * 300)), ((1,) * 300,))
        self.assertEqual(other.feed(opener.send(())), ((),))

    def test_a_side_that_has_ended_sends_no_more(self):
        opener, other = pair()
        self.assertFalse(opener.ended)
        other.feed(opener.end())
        self.assertTrue(opener.ended)
        for deed in (opener.end, lambda: opener.send((1,))):
            with self.assertRaises(SealError):
                deed()

    def test_either_side_may_send_on_when_the_other_one_has_ended(self):
        for first in (0, 1):
            sides = pair()
            one, two = sides[first], sides[1 - first]
            self.assertEqual(two.feed(one.end()), ())
            self.assertEqual((two.state, two.ended), ("over", False))
            self.assertEqual(one.feed(two.send((5,)) + two.end()), ((5,),))
            one.check_over()
            two.check_over()

    def test_a_stream_that_was_cut_off_is_told_from_one_that_was_ended(self):
        opener, other = pair()
        rows = (opener.send((1,)), opener.end())
        for seal in (Seal(987654, False), other):
            with self.assertRaises(SealError):
                seal.check_over()
        other.feed(rows[0] + rows[1][:-1])
        with self.assertRaises(SealError):
            other.check_over()
        other.feed(rows[1][-1:])
        self.assertIsNone(other.check_over())

    def test_bytes_behind_the_end_are_refused(self):
        opener, other = pair()
        end = opener.end()
        more = records_of(12345, 987654, True, [(9,), (9,)], ended=False)[1]
        other.feed(end)
        with self.assertRaises(SealError):
            other.feed(more)
        with self.assertRaises(SealError):
            other.check_over()


if __name__ == "__main__":
    unittest.main()
