"""Deltas: how to make a new row of bytes of an old one that only the other side has, told by sums of its blocks."""

from wirestack.errors import OctetError
from wirestack.octets import SUM_BASE, Reader, blob_bytes, natural_bytes, sum_bytes

STRONG_BASE = 2 ** 61 - 1
STRONG_STEP = 16777619
COPY = 0
BYTES = 1


def rolling(data):
    """Return (a, b): the sum of bytes, and the sum of each times how many are from it on, by 65521."""
    first = 0
    second = 0
    for byte in data:
        first += byte
        second += first
    return (first % SUM_BASE, second % SUM_BASE)


def rolled(pair, many, gone, fresh):
    """Return the sums of so many bytes one further on: one byte goes at the beginning, one comes at the end."""
    first = pair[0] - gone + fresh
    return (first % SUM_BASE, (pair[1] - many * gone + first) % SUM_BASE)


def strong(data):
    """Return a number that hangs on bytes: from 1 on, 16777619 times the value plus each byte plus 1.

    Each step is by 2 ** 61 - 1.
    """
    number = 1
    for byte in data:
        number = (STRONG_STEP * number + byte + 1) % STRONG_BASE
    return number


class Sums:
    """The sums of an old row's blocks: their size, the row's length, and (rolling sums, strong number) of each."""

    def __init__(self, size, length, rows):
        self.size = size
        self.length = length
        self.rows = tuple(rows)

    def shown(self):
        """Return (size, length, rows)."""
        return (self.size, self.length, self.rows)

    def places(self):
        """Return a table of the blocks' sums to their numbers, the first of equals."""
        found = {}
        for number, row in enumerate(self.rows):
            if row not in found:
                found[row] = number
        return found


def sums_of(data, size):
    """Return the sums of a row's whole blocks; what is left at the end has none. OctetError for sizes below 1."""
    if size < 1:
        raise OctetError("a block has at least one byte")
    blocks = [data[begin:begin + size] for begin in range(0, len(data) - size + 1, size)]
    return Sums(size, len(data), [(rolling(block), strong(block)) for block in blocks])


def delta(sums, data):
    """Return how to make a row: ("copy", first block, how many) and ("bytes", bytes), by an old row's sums.

    It is looked for from the beginning, at each place for the first block that fits; blocks that follow each other are
    copied together.
    """
    size = sums.size
    places = sums.places()
    # A strong number takes long to reckon, so it is asked for only where a block has the same rolling sums.
    hopeful = {pair: True for pair, number in sums.rows}
    rows = []
    begin = 0
    place = 0
    pair = rolling(data[:size])
    while place + size <= len(data):
        block = data[place:place + size]
        number = places.get((pair, strong(block))) if pair in hopeful else None
        if number is not None:
            rows = with_copy(with_bytes(rows, data[begin:place]), number)
            place += size
            begin = place
            pair = rolling(data[place:place + size])
        else:
            if place + size < len(data):
                pair = rolled(pair, size, data[place], data[place + size])
            place += 1
    return tuple(with_bytes(rows, data[begin:]))


def with_bytes(rows, plain):
    """Return rows with bytes behind them, if there are some."""
    return list(rows) + ([("bytes", plain)] if len(plain) > 0 else [])


def with_copy(rows, number):
    """Return rows with a block copied behind them, joined to a copy that ends ahead of it."""
    if len(rows) > 0 and rows[-1][0] == "copy" and rows[-1][1] + rows[-1][2] == number:
        return list(rows[:-1]) + [("copy", rows[-1][1], rows[-1][2] + 1)]
    return list(rows) + [("copy", number, 1)]


def patched(old, size, rows):
    """Return the row that a delta makes of an old one; raise OctetError for blocks that are not there."""
    found = []
    for row in rows:
        if row[0] == "bytes":
            found.extend(row[1])
            continue
        end = size * (row[1] + row[2])
        if row[2] < 1 or row[1] < 0 or end > len(old):
            raise OctetError("no such block")
        found.extend(old[size * row[1]:end])
    return tuple(found)


def delta_bytes(rows):
    """Return a delta's bytes, with a checksum at the end."""
    data = natural_bytes(len(rows))
    for row in rows:
        if row[0] == "copy":
            data = data + natural_bytes(COPY) + natural_bytes(row[1]) + natural_bytes(row[2])
        else:
            data = data + natural_bytes(BYTES) + blob_bytes(row[1])
    return data + sum_bytes(data)


def read_delta(data):
    """Return the delta of bytes; raise OctetError for others."""
    if len(data) < 4 or sum_bytes(data[:-4]) != data[-4:]:
        raise OctetError("a delta is damaged")
    reader = Reader(data[:-4])
    rows = [read_row(reader) for _ in range(reader.natural())]
    if not reader.at_end():
        raise OctetError("a delta is damaged")
    return tuple(rows)


def read_row(reader):
    """Return the row of a delta at a reader's place; raise OctetError for none."""
    mark = reader.natural()
    if mark == COPY:
        first = reader.natural()
        return ("copy", first, reader.natural())
    if mark != BYTES:
        raise OctetError("a delta is damaged")
    return ("bytes", reader.blob())
