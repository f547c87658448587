"""Frames: payloads in a row of bytes, with marks around them and a checksum."""

from wirestack.errors import OctetError
from wirestack.octets import sum_bytes, sum_of_summed

MARK = 126
ESCAPE = 125
FLIPPED_BIT = 32
MOST_PAYLOAD = 400
SUM_SIZE = 4
# One byte more than a payload and its checksum have is enough to tell later that a frame is too long.
MOST_HELD = 405


def stuffed(data):
    """Return bytes in which marks and escapes are an escape and the byte with one bit flipped."""
    found = tuple(data)
    # What stands for an escape holds one, too, so escapes come first.
    if ESCAPE in found:
        found = escaped_bytes(found, ESCAPE)
    return escaped_bytes(found, MARK) if MARK in found else found


def escaped_bytes(data, sign):
    """Return bytes in which each byte of one kind is an escape and the byte with one bit flipped."""
    found = []
    begin = 0
    for _ in range(data.count(sign)):
        end = data.index(sign, begin)
        found.extend(data[begin:end])
        found.extend((ESCAPE, sign ^ FLIPPED_BIT))
        begin = end + 1
    return tuple(found) + data[begin:]


def frame_bytes(payload):
    """Return the bytes of a payload in a frame; raise OctetError for more than 400 bytes."""
    if len(payload) > MOST_PAYLOAD:
        raise OctetError("a payload is too long")
    return (MARK,) + stuffed(payload + sum_bytes(payload)) + (MARK,)


def frame_of_summed(payload):
    """Return the bytes of a payload, of at most 400 bytes, that ends in its own checksum, in a frame."""
    return (MARK,) + stuffed(payload + sum_of_summed(payload)) + (MARK,)


class Deframer:
    """Bytes since the last mark, whether an escape came, and how many damaged frames there were."""

    def __init__(self):
        # None until the first mark: what comes before it belongs to no frame.
        self.held = None
        self.escaped = False
        self.damaged = 0

    def feed(self, data):
        """Return the payloads of the frames that end within bytes; empty and damaged ones are left out."""
        found = []
        begin = 0
        for _ in range(data.count(MARK)):
            end = data.index(MARK, begin)
            payload = self.end_frame(data[begin:end])
            if payload is not None:
                found.append(payload)
            begin = end + 1
        self.take_all(data[begin:])
        return tuple(found)

    def take_all(self, data):
        """Hold bytes of a frame, none of which is a mark."""
        if self.held is None:
            return
        rest = data
        while rest != ():
            if self.escaped or rest[0] == ESCAPE:
                self.take(rest[0])
                rest = rest[1:]
            else:
                end = rest.index(ESCAPE) if ESCAPE in rest else len(rest)
                self.held.extend(rest[:min(end, MOST_HELD - len(self.held))])
                rest = rest[end:]

    def take(self, byte):
        """Hold a byte of a frame."""
        if self.held is None:
            return
        if byte == ESCAPE and not self.escaped:
            self.escaped = True
            return
        if len(self.held) < MOST_HELD:
            self.held.append(byte ^ FLIPPED_BIT if self.escaped else byte)
        self.escaped = False

    def end_frame(self, data):
        """Return the payload of the frame that ends behind bytes, None for none; the mark begins the next one."""
        if self.held is None:
            self.begin()
            return None
        self.take_all(data)
        held = self.held
        escaped = self.escaped
        self.begin()
        if held == [] and not escaped:
            return None
        payload = tuple(held[:-SUM_SIZE])
        told = tuple(held[-SUM_SIZE:])
        if escaped or len(payload) > MOST_PAYLOAD or sum_bytes(payload) != told:
            self.damaged += 1
            return None
        return payload

    def begin(self):
        """Begin a frame behind a mark."""
        self.held = []
        self.escaped = False

    def skip_frame(self):
        """Take a frame that came whole as read elsewhere; return False if another one has begun."""
        if self.held or self.escaped:
            return False
        self.held = []
        return True


def payloads_in(data):
    """Return the payloads of all whole frames in bytes."""
    return Deframer().feed(data)
