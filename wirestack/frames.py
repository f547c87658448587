"""Frames: payloads in a row of bytes, with marks around them and a checksum."""

from wirestack.errors import OctetError
from wirestack.octets import sum_bytes

MARK = 126
ESCAPE = 125
FLIPPED_BIT = 32
MOST_PAYLOAD = 400
SUM_SIZE = 4


def stuffed(data):
    """Return bytes in which marks and escapes are an escape and the byte with one bit flipped."""
    found = []
    for byte in data:
        if byte in (MARK, ESCAPE):
            found.extend((ESCAPE, byte ^ FLIPPED_BIT))
        else:
            found.append(byte)
    return tuple(found)


def frame_bytes(payload):
    """Return the bytes of a payload in a frame; raise OctetError for more than 400 bytes."""
    if len(payload) > MOST_PAYLOAD:
        raise OctetError("a payload is too long")
    return (MARK,) + stuffed(payload + sum_bytes(payload)) + (MARK,)


class Deframer:
    """Bytes since the last mark, whether an escape came, and how many damaged frames there were."""

    def __init__(self):
        # None until the first mark: what comes before it belongs to no frame.
        self.held = None
        self.escaped = False
        self.damaged = 0

    def feed(self, data):
        """Return the payloads of the frames that end within bytes; empty and damaged ones are left out."""
        found = []
        for byte in data:
            if byte == MARK:
                payload = self.end_frame()
                if payload is not None:
                    found.append(payload)
            else:
                self.take(byte)
        return tuple(found)

    def take(self, byte):
        """Hold a byte of a frame."""
        if self.held is None:
            return
        if byte == ESCAPE and not self.escaped:
            self.escaped = True
            return
        # One byte more than a frame may have is enough to tell later that it is too long.
        if len(self.held) <= MOST_PAYLOAD + SUM_SIZE:
            self.held.append(byte ^ FLIPPED_BIT if self.escaped else byte)
        self.escaped = False

    def end_frame(self):
        """Return the payload of the frame that a mark ends, None if there is none; the mark begins the next one."""
        held = self.held
        escaped = self.escaped
        self.held = []
        self.escaped = False
        if held is None or (held == [] and not escaped):
            return None
        payload = tuple(held[:-SUM_SIZE])
        told = tuple(held[-SUM_SIZE:])
        if escaped or len(payload) > MOST_PAYLOAD or sum_bytes(payload) != told:
            self.damaged += 1
            return None
        return payload


def payloads_in(data):
    """Return the payloads of all whole frames in bytes."""
    return Deframer().feed(data)
