"""Verifier: whether a filter can go astray, told without running it.

Before each row that can be reached it knows the least size that a packet has there, and of each register the least and
the greatest number it may hold, or None if it may not be set. A row that several rows lead to knows what holds for all
of them. Rows are looked at in order, each once, as jumps lead to later rows alone.
"""

from wirestack.errors import FilterError
from wirestack.filters import REGISTERS, check_rows

MOST_SIZE = 4000
TOP = 4294967295
ALL = (0, 4294967295)
# Where in a row the registers stand that it reads.
READS = {"move": (2,), "op": (2, 3), "at": (2,), "if": (2, 3), "put": (2,)}
# The greatest number that so many bytes hold.
MOST_OF_BYTES = {1: 255, 2: 65535, 4: 4294967295}
OPPOSITES = {"==": "!=", "!=": "==", "<": "<=", "<=": "<"}


class Knowledge:
    """The least size of packets, and (low, high) or None of each register."""

    def __init__(self, least, registers):
        self.least = least
        self.registers = registers

    def shown(self):
        """Return (least size, registers)."""
        return (self.least, self.registers)

    def widened(self, other):
        """Return what holds in both cases."""
        spans = [joined_span(one, two) for one, two in zip(self.registers, other.registers)]
        return Knowledge(min(self.least, other.least), tuple(spans))

    def with_span(self, index, span):
        """Return what is known once a register has a span."""
        return Knowledge(self.least, self.registers[:index] + (span,) + self.registers[index + 1:])


def joined_span(one, other):
    """Return the span that holds two spans, None if one of them is None."""
    if one is None or other is None:
        return None
    return (min(one[0], other[0]), max(one[1], other[1]))


def verify(rows):
    """Return what is known before each row, None for rows that are never reached; raise FilterError.

    It does so for a register that may not be set ("unset"), bytes that may not be there ("outside"), and a way behind
    the last row ("no end"), at the first such row.
    """
    check_rows(rows)
    found = [None] * (len(rows) + 1)
    found[0] = Knowledge(0, (None,) * REGISTERS)
    for number, row in enumerate(rows):
        if found[number] is not None:
            check_row(number, row, found[number])
            for place, known in ways_from(number, row, found[number]):
                found[place] = known if found[place] is None else found[place].widened(known)
    if found[len(rows)] is not None:
        raise FilterError("no end", len(rows))
    return tuple(found[:-1])


def is_safe(rows):
    """Return True if a filter cannot go astray."""
    try:
        verify(rows)
    except FilterError:
        return False
    return True


def check_row(number, row, known):
    """Raise FilterError for a row that reads a register that may not be set, or bytes that may not be there."""
    for part in READS.get(row[0], ()):
        if known.registers[row[part]] is None:
            raise FilterError("unset", number)
    if row[0] in ("load", "at"):
        place = row[2] if row[0] == "load" else known.registers[row[2]][1]
        if place + row[3] > known.least:
            raise FilterError("outside", number)


def ways_from(number, row, known):
    """Return (place, what is known there) of each row that may follow a row."""
    word = row[0]
    if word in ("accept", "drop"):
        return []
    if word == "jump":
        return [(row[1], known)]
    if word == "need":
        return ways_of_need(number, row, known)
    if word == "if":
        return ways_of_test(number, row, known)
    if word == "put":
        return [(number + 1, known)]
    index = row[2] if word == "op" else row[1]
    return [(number + 1, known.with_span(index, span_of(row, known)))]


def ways_of_need(number, row, known):
    """Return (place, what is known there) of both ways behind a row that needs so many bytes."""
    found = [(number + 1, Knowledge(max(known.least, row[1]), known.registers))]
    if known.least < row[1]:
        found.append((row[2], known))
    return found


def ways_of_test(number, row, known):
    """Return (place, what is known there) of both ways behind a comparison, as far as they can be."""
    sign, one, other, place = row[1:]
    if one == other:
        # A register beside itself tells nothing of its number, only which way is gone.
        return [(place if sign in ("==", "<=") else number + 1, known)]
    found = []
    jumps = narrowed(sign, known.registers[one], known.registers[other])
    if jumps is not None:
        found.append((place, known.with_span(one, jumps[0]).with_span(other, jumps[1])))
    if sign in ("<", "<="):
        # That one number is not below the other one tells that the other one is at most as great.
        one, other = other, one
    goes_on = narrowed(OPPOSITES[sign], known.registers[one], known.registers[other])
    if goes_on is not None:
        found.append((number + 1, known.with_span(one, goes_on[0]).with_span(other, goes_on[1])))
    return found


def span_of(row, known):
    """Return the span of the number that a row puts into a register."""
    word = row[0]
    if word == "set":
        return (row[2], row[2])
    if word == "move":
        return known.registers[row[2]]
    if word == "op":
        return span_by(row[1], known.registers[row[2]], known.registers[row[3]])
    if word == "size":
        return (known.least, MOST_SIZE)
    if word == "get":
        return ALL
    return (0, MOST_OF_BYTES[row[3]])


def span_by(sign, one, other):
    """Return the span of what two numbers of spans come to; all numbers where it may pass the bounds."""
    if sign == "and":
        return (0, min(one[1], other[1]))
    if sign in ("or", "xor"):
        return (0, whole_bits(max(one[1], other[1])))
    if sign == "shift":
        return (one[0] >> other[1], one[1] >> other[0]) if other[1] < 32 else (0, one[1])
    if sign == "+":
        low, high = one[0] + other[0], one[1] + other[1]
    elif sign == "-":
        low, high = one[0] - other[1], one[1] - other[0]
    else:
        low, high = one[0] * other[0], one[1] * other[1]
    return (low, high) if low >= 0 and high <= TOP else ALL


def whole_bits(number):
    """Return the greatest number with as many bits as a number has."""
    found = 0
    while found < number:
        found = 2 * found + 1
    return found


def narrowed(sign, one, other):
    """Return the spans of two numbers between which a comparison holds, None if it cannot."""
    if sign == "!=":
        return None if one[0] == one[1] == other[0] == other[1] else (one, other)
    if sign == "==":
        both = (max(one[0], other[0]), min(one[1], other[1]))
        return (both, both) if both[0] <= both[1] else None
    gap = 1 if sign == "<" else 0
    first = (one[0], min(one[1], other[1] - gap))
    second = (max(other[0], one[0] + gap), other[1])
    return (first, second) if first[0] <= first[1] and second[0] <= second[1] else None
