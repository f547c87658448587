"""Packets: bytes from an address to another one, in parts where a link takes no more, and put together again."""

from wirestack.errors import OctetError, PacketError
from wirestack.octets import Reader, blob_bytes, fixed_bytes, fixed_number, natural_bytes, sum_bytes

MOST_HOPS = 16
MOST_BODY = 2000
MOST_WAIT = 40


class Packet:
    """Where from and to, how many hops are left, a number, the place of the body's part, whether it is the last."""

    def __init__(self, source, target, hops, number, place, last, body):
        self.source = source
        self.target = target
        self.hops = hops
        self.number = number
        self.place = place
        self.last = last
        self.body = body

    def shown(self):
        """Return (source, target, hops, number, place, last, body)."""
        return (self.source, self.target, self.hops, self.number, self.place, self.last, self.body)

    def passed_on(self):
        """Return the packet with a hop less; raise PacketError if none is left."""
        if self.hops <= 1:
            raise PacketError("no hop is left")
        return Packet(self.source, self.target, self.hops - 1, self.number, self.place, self.last, self.body)


def packet_bytes(packet):
    """Return the bytes of a packet, with a checksum at the end; raise PacketError for one that cannot be told."""
    if not 0 <= packet.hops <= MOST_HOPS:
        raise PacketError("a packet has too many hops")
    try:
        ends = fixed_bytes(packet.source, 2) + fixed_bytes(packet.target, 2) + fixed_bytes(packet.hops, 1)
        part = natural_bytes(packet.number) + fixed_bytes(packet.place, 2) + fixed_bytes(packet.last, 1)
        data = ends + part + blob_bytes(packet.body)
    except OctetError:
        raise PacketError("no packet")
    return data + sum_bytes(data)


def read_packet(data):
    """Return the packet of bytes; raise PacketError for damaged ones."""
    if len(data) < 4 or sum_bytes(data[:-4]) != data[-4:]:
        raise PacketError("a packet is damaged")
    reader = Reader(data[:-4])
    try:
        source = fixed_number(reader.take(2))
        target = fixed_number(reader.take(2))
        hops = fixed_number(reader.take(1))
        number = reader.natural()
        place = fixed_number(reader.take(2))
        last = fixed_number(reader.take(1))
        body = reader.blob()
    except OctetError:
        raise PacketError("a packet is damaged")
    if not reader.at_end() or last > 1 or hops > MOST_HOPS:
        raise PacketError("a packet is damaged")
    return Packet(source, target, hops, number, place, last, body)


def parts_of(packet, room):
    """Return the packets that carry a packet's body in parts of at most so many bytes, in order."""
    if room < 1:
        raise PacketError("there is no room")
    if len(packet.body) <= room:
        return (packet,)
    found = []
    for begin in range(0, len(packet.body), room):
        body = packet.body[begin:begin + room]
        # A packet may be a part itself: only the last one of its parts ends the body as it does.
        last = packet.last if begin + room >= len(packet.body) else 0
        place = packet.place + begin
        found.append(Packet(packet.source, packet.target, packet.hops, packet.number, place, last, body))
    return tuple(found)


class PartRow:
    """Parts of one body by place, as (bytes, last), and how many ticks they may still wait."""

    def __init__(self):
        self.parts = {}
        self.left = MOST_WAIT

    def put(self, packet):
        """Keep a part instead of one at the same place, and wait for the others anew."""
        self.parts[packet.place] = (packet.body, packet.last)
        self.left = MOST_WAIT

    def told_size(self):
        """Return where the last part ends, None if no part tells it or parts tell it in two ways."""
        ends = {place + len(body): True for place, (body, last) in self.parts.items() if last == 1}
        return list(ends)[0] if len(ends) == 1 else None

    def bodies(self):
        """Return the parts' bytes by place."""
        return {place: body for place, (body, last) in self.parts.items()}


class Assembler:
    """Parts that came, by where from and number, and how long each may wait."""

    def __init__(self):
        self.waiting = {}

    def add(self, packet):
        """Return the whole body that a part completes, None if parts are missing; wrong parts are left out."""
        if packet.body == () or packet.place + len(packet.body) > MOST_BODY:
            return None
        key = (packet.source, packet.number)
        if key not in self.waiting:
            self.waiting[key] = PartRow()
        row = self.waiting[key]
        row.put(packet)
        body = joined(row.bodies(), row.told_size())
        if body is not None:
            del self.waiting[key]
        return body

    def tick(self):
        """Let time pass: parts that waited for 40 ticks are left out."""
        for key in list(self.waiting):
            row = self.waiting[key]
            row.left -= 1
            if row.left <= 0:
                del self.waiting[key]


def joined(parts, size):
    """Return the body of parts by place, None if the size is not known or bytes are missing or told in two ways."""
    if size is None:
        return None
    told = {}
    for place in parts:
        for step, byte in enumerate(parts[place]):
            if told.get(place + step, byte) != byte:
                return None
            told[place + step] = byte
    # Bytes behind the end that the last part tells are against what that part told.
    if sorted(told) != list(range(size)):
        return None
    return tuple([told[place] for place in range(size)])
