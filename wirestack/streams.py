"""Streams: bytes that go both ways between two hosts, each once and in order, over packets that may be lost.

A segment is (kind, opener's address, stream's number, place, told, room, last, bytes): what stands from a place on,
up to which place all was heard, how many bytes more there is room for, and whether the stream ends behind the bytes.
"""

from wirestack.errors import OctetError, SocketError
from wirestack.octets import Reader, blob_bytes, fixed_bytes, fixed_number, natural_bytes

OPEN = 1
DATA = 2
REFUSED = 3
MOST_SEGMENT = 100
MOST_UNREAD = 400
FIRST_WAIT = 6
MOST_WAIT = 48
MOST_TIMES = 10


def segment_bytes(segment):
    """Return the bytes of a segment."""
    kind, opener, number, place, told, room, last, data = segment
    found = natural_bytes(kind) + fixed_bytes(opener, 2)
    for part in (number, place, told, room, last):
        found = found + natural_bytes(part)
    return found + blob_bytes(data)


def read_segment(data):
    """Return the segment of bytes; raise SocketError for others."""
    reader = Reader(data)
    try:
        kind = reader.natural()
        opener = fixed_number(reader.take(2))
        number = reader.natural()
        place = reader.natural()
        told = reader.natural()
        room = reader.natural()
        last = reader.natural()
        found = reader.blob()
    except OctetError:
        raise SocketError("no segment")
    if not reader.at_end() or kind not in (OPEN, DATA, REFUSED) or last > 1:
        raise SocketError("no segment")
    return (kind, opener, number, place, told, room, last, found)


def wants_answer(segment):
    """Return True if the sender of a segment has to be told what was heard: it opens, carries bytes, or ends.

    A segment that only tells is not answered, or two hosts would answer each other for ever.
    """
    return segment[0] == OPEN or (segment[0] == DATA and (segment[6] == 1 or segment[7] != ()))


class Stream:
    """One side of a stream: whom with, what is to be sent and was, what was heard, and its state.

    States: "opening", "open", "failed", "closed" (over and done). Bytes to be sent stand from the place that the other
    side has told.
    """

    def __init__(self, peer, opener, number, state):
        self.peer = peer
        self.opener = opener
        self.number = number
        self.state = state
        self.fault = None
        self.to_send = ()
        self.told_place = 0
        self.sent_place = 0
        self.room = MOST_UNREAD
        self.closing = False
        self.end_sent = False
        self.end_told = False
        self.unread = ()
        self.heard_place = 0
        self.parts = {}
        self.end_place = None
        # Something is to be told, if only that this side opens the stream.
        self.news = state == "opening"
        self.waited = 0
        self.wait = FIRST_WAIT
        self.times = 0

    def key(self):
        """Return (opener, number)."""
        return (self.opener, self.number)

    def send(self, data):
        """Add bytes to what is to be sent; raise SocketError if the stream was closed or has failed."""
        if self.closing or self.state in ("failed", "closed"):
            raise SocketError("the stream takes no more bytes")
        self.to_send = self.to_send + data

    def close(self):
        """Let the stream end behind what is to be sent."""
        if self.state != "failed":
            self.closing = True

    def read(self, many=100000):
        """Return at most so many of the bytes that came, in order."""
        if self.unread == ():
            return ()
        found = self.unread[:many]
        self.unread = self.unread[many:]
        # Where the end was heard, the other side needs no more room.
        if found != () and not self.end_heard():
            self.news = True
        self.note_end()
        return found

    def end_heard(self):
        """Return True if the other side's end was heard, and all bytes before it."""
        return self.end_place == self.heard_place

    def is_over(self):
        """Return True if the other side has ended and all its bytes were read."""
        return self.end_heard() and self.unread == ()

    def is_done(self):
        """Return True if the other side has told that it heard everything, the end too."""
        return self.end_told

    def note_end(self):
        """Note that the stream is closed as soon as it is over and done."""
        if self.state == "open" and self.is_over() and self.is_done():
            self.state = "closed"

    def fail(self, fault):
        """Let the stream fail for a reason."""
        self.state = "failed"
        self.fault = fault

    def hear(self, segment):
        """Take a segment of the other side into account."""
        place, told, room, last, data = segment[3:]
        if segment[0] == REFUSED:
            if self.state == "opening":
                self.fail("refused")
            return
        if self.state == "failed":
            return
        if self.state == "opening":
            self.state = "open"
            self.wait_anew()
        self.hear_told(told, room)
        self.hear_part(place, last, data)
        if wants_answer(segment):
            self.news = True
        self.note_end()

    def hear_told(self, told, room):
        """Take into account what the other side has heard, and how much room it has."""
        end = self.told_place + len(self.to_send)
        # What is older than the newest is known, and what was never sent cannot have been heard.
        if told < self.told_place or told > end + (1 if self.closing else 0):
            return
        if told > self.told_place and not self.end_told:
            self.wait_anew()
        elif self.room == 0 and room > 0:
            # The byte that was sent beyond the room was left out by the other side.
            self.sent_place = self.told_place
        if told > end:
            self.end_told = True
            told = end
        self.to_send = self.to_send[told - self.told_place:]
        self.told_place = told
        self.sent_place = max(self.sent_place, told)
        self.room = room

    def hear_part(self, place, last, data):
        """Take bytes from a place on into account, as far as there is room, and the end behind them."""
        end = place + len(data)
        if last == 1 and self.end_place is None and end >= self.heard_place:
            self.end_place = end
        limit = self.heard_place + self.room_left()
        # Nothing stands behind the end.
        if self.end_place is not None:
            limit = min(limit, self.end_place)
        part = data[:max(0, limit - place)]
        if len(part) > len(self.parts.get(place, ())):
            self.parts[place] = part
        self.join()

    def join(self):
        """Move parts that follow what was heard to the bytes that can be read."""
        places = sorted(self.parts)
        for place in places:
            if place > self.heard_place:
                return
            part = self.parts.pop(place)
            self.unread = self.unread + part[self.heard_place - place:]
            self.heard_place = max(self.heard_place, place + len(part))

    def room_left(self):
        """Return how many bytes more there is room for."""
        return max(0, MOST_UNREAD - len(self.unread))

    def wait_anew(self):
        """Begin to wait for news of the other side anew."""
        self.waited = 0
        self.wait = FIRST_WAIT
        self.times = 0

    def is_awaiting(self):
        """Return True if something was sent of which the other side has not told that it heard it."""
        if self.state == "opening":
            return not self.news
        return self.sent_place > self.told_place or (self.end_sent and not self.end_told)

    def has_sent_all(self):
        """Return True if nothing is due: all was sent, the end, too, and nothing new is to be told."""
        if self.news or (self.closing and not self.end_sent and not self.end_told):
            return False
        return self.sent_place == self.told_place + len(self.to_send)

    def tick(self):
        """Let time pass; return the segments that are sent: those due, or all again after a wait."""
        if self.state == "failed":
            return []
        if self.is_awaiting():
            self.waited += 1
            if self.waited >= self.wait:
                return self.all_segments()
        return [] if self.has_sent_all() else self.due_segments()

    def all_segments(self):
        """Return all segments that were not heard yet, and wait longer; fail if they were sent again often enough."""
        if self.times >= MOST_TIMES:
            self.fail("timed out")
            return []
        self.times += 1
        self.waited = 0
        self.wait = min(2 * self.wait, MOST_WAIT)
        self.sent_place = self.told_place
        self.end_sent = False
        self.news = True
        return self.due_segments()

    def due_segments(self):
        """Return the segments of what was not sent yet, or one that only tells if something new is to be told."""
        end = self.told_place + len(self.to_send)
        limit = min(end, self.told_place + max(1, self.room))
        found = []
        while self.sent_place < limit:
            many = min(MOST_SEGMENT, limit - self.sent_place)
            found.append(self.segment(self.sent_place, many))
            self.sent_place += many
        if self.closing and not self.end_sent and not self.end_told and self.sent_place == end:
            if found == []:
                found.append(self.segment(end, 0))
            self.end_sent = True
        if found == [] and self.news:
            found.append(self.telling())
        self.news = False
        return found

    def segment(self, place, many):
        """Return the segment of so many bytes from a place on."""
        begin = place - self.told_place
        last = 1 if self.closing and begin + many == len(self.to_send) else 0
        kind = OPEN if self.state == "opening" else DATA
        data = self.to_send[begin:begin + many]
        return (kind, self.opener, self.number, place, self.heard_up_to(), self.room_left(), last, data)

    def telling(self):
        """Return a segment that only tells."""
        kind = OPEN if self.state == "opening" else DATA
        told = self.heard_up_to()
        return (kind, self.opener, self.number, self.sent_place, told, self.room_left(), 0, ())

    def heard_up_to(self):
        """Return up to which place all was heard; the end counts one more."""
        return self.heard_place + (1 if self.end_heard() else 0)


class Endpoint:
    """A host's address, its streams by (opener, number), streams that were opened to it, and what is to be sent."""

    def __init__(self, address):
        self.address = address
        self.listening = False
        self.streams = {}
        self.opened = []
        self.outbox = []
        # Of streams that were let go: whom with, and the segment that tells what had been heard.
        self.let_go = {}
        self.last_number = 0

    def listen(self):
        """Take streams that are opened to this host from now on."""
        self.listening = True

    def connect(self, peer):
        """Return a new stream to a host."""
        self.last_number += 1
        stream = Stream(peer, self.address, self.last_number, "opening")
        self.streams[stream.key()] = stream
        return stream

    def accept(self):
        """Return the next stream that was opened to this host, None for none."""
        return self.opened.pop(0) if self.opened != [] else None

    def receive(self, source, data):
        """Take bytes from a host into account; bytes that are no segment are left out."""
        try:
            segment = read_segment(data)
        except SocketError:
            return
        key = (segment[1], segment[2])
        if key in self.streams:
            stream = self.streams[key]
            if stream.peer == source:
                stream.hear(segment)
        elif key in self.let_go:
            peer, telling = self.let_go[key]
            if peer == source and wants_answer(segment):
                self.outbox.append((peer, segment_bytes(telling)))
        elif segment[0] == OPEN and segment[1] == source:
            self.take_opened(source, segment)

    def take_opened(self, source, segment):
        """Take a new stream that a host opens, or refuse it where nobody listens."""
        opener, number = segment[1:3]
        if not self.listening:
            self.outbox.append((source, segment_bytes((REFUSED, opener, number, 0, 0, 0, 0, ()))))
            return
        stream = Stream(source, opener, number, "open")
        self.streams[stream.key()] = stream
        self.opened.append(stream)
        stream.hear(segment)

    def tick(self):
        """Let time pass, and put the segments that are due into the outbox."""
        streams = list(self.streams.values())
        for stream in streams:
            for segment in stream.tick():
                self.outbox.append((stream.peer, segment_bytes(segment)))
            if stream.state in ("failed", "closed"):
                del self.streams[stream.key()]
                self.let_go[stream.key()] = (stream.peer, stream.telling())

    def take_outbox(self):
        """Return the (host, bytes) rows that are to be sent and forget them."""
        found = self.outbox
        self.outbox = []
        return found
