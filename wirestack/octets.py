"""Octets: numbers, texts and rows as bytes (numbers from 0 to 255), and checksums of bytes."""

from wirestack.errors import OctetError

LETTERS = '\n !"#$&\'()*+,-./0123456789:;<=>?@ABCDEFGHIJKLMNOPQRSTUVWXYZ[\\]^_`abcdefghijklmnopqrstuvwxyz{|}~'
MOST_NUMBER = 2 ** 62
SUM_BASE = 65521


def natural_bytes(number):
    """Return a number from 0 on as bytes of seven bits, the lowest first, all but the last raised by 128."""
    if not 0 <= number < MOST_NUMBER:
        raise OctetError("a number is out of bounds")
    # Most numbers have one byte or two, so those are told without a loop.
    if number < 128:
        return (number,)
    if number < 16384:
        return (128 + number % 128, number // 128)
    found = []
    rest = number
    while rest >= 128:
        found.append(128 + rest % 128)
        rest = rest // 128
    found.append(rest)
    return tuple(found)


def fixed_bytes(number, many):
    """Return a number as so many bytes, the highest first; raise OctetError if it does not fit."""
    if many == 2 and 0 <= number < 65536:
        return (number // 256, number % 256)
    found = []
    rest = number
    for _ in range(many):
        found.append(rest % 256)
        rest = rest // 256
    # A number below 0 leaves -1 here, so it does not fit either.
    if rest != 0:
        raise OctetError("a number is out of bounds")
    return tuple(found[::-1])


def fixed_number(data):
    """Return the number of bytes, the highest first."""
    number = 0
    for byte in data:
        number = 256 * number + byte
    return number


def text_bytes(text):
    """Return a text as bytes, a character's place in the order of characters; raise OctetError for others."""
    found = tuple([LETTERS.find(sign) for sign in text])
    if -1 in found:
        raise OctetError("a character cannot be told")
    return found


def bytes_text(data):
    """Return the text of bytes; raise OctetError for bytes that are no character's."""
    if len(data) > 0 and (min(data) < 0 or max(data) >= len(LETTERS)):
        raise OctetError("a byte is no character's")
    return "".join([LETTERS[byte] for byte in data])


def told_sums(first, second):
    """Return the four bytes of a checksum by its two sums, which may have grown beyond 65521."""
    one = first % SUM_BASE
    two = second % SUM_BASE
    return (two // 256, two % 256, one // 256, one % 256)


def sum_bytes(data):
    """Return the checksum of bytes as four bytes: two sums by 65521, the first from 1 on, the second of the first's."""
    first = 1
    second = 0
    for byte in data:
        first += byte
        second += first
    return told_sums(first, second)


def sum_of_summed(data):
    """Return the checksum of bytes that end in their own checksum, which tells the sums up to there."""
    one, two, three, four = data[-4:]
    first = 256 * three + four
    second = 256 * one + two + 4 * first + 4 * one + 3 * two + 2 * three + four
    return told_sums(first + one + two + three + four, second)


def check_bytes(data):
    """Raise OctetError for a value that is no tuple of bytes."""
    # True and False count as integers for isinstance, but they are no bytes.
    if not isinstance(data, tuple) or any(isinstance(byte, bool) or not isinstance(byte, int) for byte in data):
        raise OctetError("this is no tuple of numbers")
    if any(not 0 <= byte < 256 for byte in data):
        raise OctetError("a number is no byte")


class Reader:
    """Bytes and a place in them."""

    def __init__(self, data):
        self.data = data
        self.place = 0

    def take(self, many):
        """Move past so many bytes and return them; raise OctetError if there are fewer."""
        if self.place + many > len(self.data):
            raise OctetError("the bytes end too early")
        begin = self.place
        self.place = begin + many
        return self.data[begin:self.place]

    def natural(self):
        """Move past a number and return it; raise OctetError for one that is not told in the only way."""
        begin = self.place
        # Most numbers have one byte alone.
        if begin < len(self.data) and self.data[begin] < 128:
            self.place = begin + 1
            return self.data[begin]
        found = 0
        weight = 1
        byte = 128
        while byte >= 128:
            if weight > MOST_NUMBER:
                raise OctetError("a number is too long")
            byte = self.take(1)[0]
            found = found + byte % 128 * weight
            weight = weight * 128
        # A last byte of 0 adds nothing, so the number could be told without it.
        if byte == 0 and weight > 128 or found >= MOST_NUMBER:
            raise OctetError("a number is told in another way")
        return found

    def blob(self):
        """Move past a number of bytes and so many bytes, and return them."""
        return self.take(self.natural())

    def at_end(self):
        """Return True at the end of the bytes."""
        return self.place >= len(self.data)


def blob_bytes(data):
    """Return the number of bytes and the bytes."""
    return natural_bytes(len(data)) + data
