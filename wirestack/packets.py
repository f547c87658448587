"""Packets: bytes from an address to another one, in parts where a link takes no more, and put together again."""

from wirestack.errors import OctetError, PacketError
from wirestack.octets import Reader, natural_bytes, sum_bytes

MOST_HOPS = 16
MOST_BODY = 2000
MOST_WAIT = 40
TWO_BYTES = 65536


class Packet:
    """Where from and to, how many hops are left, a number, the place of the body's part, whether it is the last."""

    def __init__(self, source, target, hops, number, place, last, body):
        self.source = source
        self.target = target
        self.hops = hops
        self.number = number
        self.place = place
        self.last = last
        self.body = body

    def shown(self):
        """Return (source, target, hops, number, place, last, body)."""
        return (self.source, self.target, self.hops, self.number, self.place, self.last, self.body)

    def passed_on(self):
        """Return the packet with a hop less; raise PacketError if none is left."""
        if self.hops <= 1:
            raise PacketError("no hop is left")
        return Packet(self.source, self.target, self.hops - 1, self.number, self.place, self.last, self.body)


def packet_bytes(packet):
    """Return the bytes of a packet, with a checksum at the end; raise PacketError for one that cannot be told."""
    if not 0 <= packet.hops <= MOST_HOPS:
        raise PacketError("a packet has too many hops")
    source, target, place, last = packet.source, packet.target, packet.place, packet.last
    # A packet's numbers are told here straight, as each packet goes this way, often over several links.
    if not 0 <= source < TWO_BYTES or not 0 <= target < TWO_BYTES or not 0 <= place < TWO_BYTES or not 0 <= last < 256:
        raise PacketError("no packet")
    try:
        number = natural_bytes(packet.number)
    except OctetError:
        raise PacketError("no packet")
    ends = (source // 256, source % 256, target // 256, target % 256, packet.hops % 256)
    part = (place // 256, place % 256, last % 256) + natural_bytes(len(packet.body))
    data = ends + number + part + packet.body
    return data + sum_bytes(data)


def read_packet(data):
    """Return the packet of bytes; raise PacketError for damaged ones."""
    if len(data) < 4 or sum_bytes(data[:-4]) != data[-4:]:
        raise PacketError("a packet is damaged")
    reader = Reader(data[:-4])
    try:
        ends = reader.take(5)
        number = reader.natural()
        part = reader.take(3)
        body = reader.blob()
    except OctetError:
        raise PacketError("a packet is damaged")
    if not reader.at_end() or part[2] > 1 or ends[4] > MOST_HOPS:
        raise PacketError("a packet is damaged")
    source, target, place = 256 * ends[0] + ends[1], 256 * ends[2] + ends[3], 256 * part[0] + part[1]
    return Packet(source, target, ends[4], number, place, part[2], body)


def parts_of(packet, room):
    """Return the packets that carry a packet's body in parts of at most so many bytes, in order."""
    if room < 1:
        raise PacketError("there is no room")
    if len(packet.body) <= room:
        return (packet,)
    found = []
    for begin in range(0, len(packet.body), room):
        body = packet.body[begin:begin + room]
        # A packet may be a part itself: only the last one of its parts ends the body as it does.
        last = packet.last if begin + room >= len(packet.body) else 0
        place = packet.place + begin
        found.append(Packet(packet.source, packet.target, packet.hops, packet.number, place, last, body))
    return tuple(found)


class PartRow:
    """Parts of one body by place, as (bytes, last), and how many ticks they may still wait."""

    def __init__(self):
        self.parts = {}
        self.left = MOST_WAIT

    def put(self, packet):
        """Keep a part instead of one at the same place, and wait for the others anew."""
        self.parts[packet.place] = (packet.body, packet.last)
        self.left = MOST_WAIT

    def told_size(self):
        """Return where the last part ends, None if no part tells it or parts tell it in two ways."""
        ends = {place + len(body): True for place, (body, last) in self.parts.items() if last == 1}
        return list(ends)[0] if len(ends) == 1 else None

    def bodies(self):
        """Return the parts' bytes by place."""
        return {place: body for place, (body, last) in self.parts.items()}


class Assembler:
    """Parts that came, by where from and number, and how long each may wait."""

    def __init__(self):
        self.waiting = {}

    def add(self, packet):
        """Return the whole body that a part completes, None if parts are missing; wrong parts are left out."""
        if packet.body == () or packet.place + len(packet.body) > MOST_BODY:
            return None
        key = (packet.source, packet.number)
        if key not in self.waiting:
            # Most bodies come whole, and wait for nothing.
            if packet.place == 0 and packet.last == 1:
                return tuple(packet.body)
            self.waiting[key] = PartRow()
        row = self.waiting[key]
        row.put(packet)
        body = joined(row.bodies(), row.told_size())
        if body is not None:
            del self.waiting[key]
        return body

    def tick(self):
        """Let time pass: parts that waited for 40 ticks are left out."""
        for key in list(self.waiting):
            row = self.waiting[key]
            row.left -= 1
            if row.left <= 0:
                del self.waiting[key]


def joined(parts, size):
    """Return the body of parts by place, None if the size is not known or bytes are missing or told in two ways."""
    if size is None:
        return None
    found = ()
    for place in sorted(parts):
        part = parts[place]
        if place > len(found):
            return None
        both = found[place:place + len(part)]
        if both != part[:len(both)]:
            return None
        found = found + part[len(both):]
    # Bytes behind the end that the last part tells are against what that part told.
    return found if len(found) == size else None
