"""Hosts: machines with an address that pass packets on, learn ways, and keep streams for what runs on them."""

from wirestack.errors import PacketError, RouteError
from wirestack.filters import run_filter
from wirestack.frames import MOST_PAYLOAD, Deframer, frame_of_summed
from wirestack.octets import natural_bytes
from wirestack.packets import MOST_HOPS, Assembler, Packet, packet_bytes, parts_of, read_packet
from wirestack.routes import Routes, read_vector, vector_bytes
from wirestack.streams import Endpoint

# The classes of packets' bodies.
SEGMENTS = 1
WAYS = 2
NAMES = 3
COPIES = 4
MAIL = 5
NEWS = 6
TELLS_EACH = 3
# The bytes of a packet but its number and its part: those of fixed size, two of the part's length, and the checksum.
PACKET_AROUND = 14
# So many bytes of a body have place in a frame whatever the packet's number.
SMALL_BODY = 370
MOST_KNOWN = 500
KEY_SIZE = 12


class Port:
    """A neighbour's address, the link to it, and the ways that were told over it last, also as bytes."""

    def __init__(self, neighbour, link):
        self.neighbour = neighbour
        self.link = link
        self.rows = None
        self.data = ()

    def bytes_of(self, vector):
        """Return the bytes of ways; those that were told last are kept, as they mostly are told again."""
        if vector != self.rows:
            self.data = vector_bytes(vector)
            self.rows = vector
        return self.data


class KnownFrames:
    """Frames that were made, with the payload and the packet in each: one that comes unchanged is not read anew."""

    def __init__(self):
        self.rows = {}

    def note(self, data, payload, packet):
        """Note what is in a frame; when there are many, older ones are forgotten."""
        if len(self.rows) >= MOST_KNOWN:
            self.rows = {}
        # The first bytes mostly tell which packet it is, and are found faster than all.
        self.rows[data[:KEY_SIZE]] = (data, payload, packet)

    def find(self, data):
        """Return (bytes, payload, packet) of a frame's bytes, None if they are not known."""
        row = self.rows.get(data[:KEY_SIZE])
        return row if row is not None and row[0] == data else None


class Host:
    """A name, an address, ports by neighbours' addresses, ways, streams, packets' parts, what runs, a guard or None."""

    def __init__(self, name, address):
        self.name = name
        self.address = address
        self.clock = 0
        self.ports = {}
        self.deframers = {}
        self.routes = Routes(address)
        # The ways that were heard last, as (bytes, rows) by neighbour.
        self.heard = {}
        self.endpoint = Endpoint(address)
        self.assembler = Assembler()
        self.runs = []
        # Who takes bodies of further classes, by class.
        self.services = {}
        # A network's hosts share what they know of frames.
        self.known = KnownFrames()
        self.guard = None
        self.last_number = 0
        self.damaged = 0
        self.dropped = 0

    def guard_by(self, guard):
        """Let a guard look at the packets that come, None for nobody."""
        self.guard = guard

    def add_port(self, neighbour, link):
        """Let a link lead to a neighbour."""
        self.ports[neighbour] = Port(neighbour, link)

    def add_service(self, kind, service):
        """Let something take the bodies of a class that come to this host."""
        if kind not in self.services:
            self.services[kind] = []
        self.services[kind].append(service)

    def send(self, target, kind, data):
        """Send bytes of a class to a host, in packets; they are lost if no way is known."""
        self.send_packet(self.new_packet(target, kind, data))

    def new_packet(self, target, kind, data):
        """Return a packet of this host with the next number."""
        self.last_number += 1
        return Packet(self.address, target, MOST_HOPS, self.last_number, 0, 1, (kind,) + data)

    def send_packet(self, packet):
        """Send a packet over the neighbour that leads to its target; drop it if no way is known."""
        try:
            neighbour = self.routes.next_hop(packet.target)
        except RouteError:
            self.dropped += 1
            return
        self.send_over(self.ports[neighbour], packet)

    def send_over(self, port, packet):
        """Send a packet over a link, in parts where the link's room, or a frame, is smaller."""
        if len(packet.body) <= min(port.link.room, SMALL_BODY):
            self.send_part(port, packet, packet_bytes(packet))
            return
        most = MOST_PAYLOAD - PACKET_AROUND - len(natural_bytes(packet.number))
        parts = parts_of(packet, min(port.link.room, most))
        for part, payload in [(part, packet_bytes(part)) for part in parts]:
            self.send_part(port, part, payload)

    def send_part(self, port, part, payload):
        """Send a packet that has place in a frame, with its bytes, over a link."""
        data = frame_of_summed(payload)
        self.known.note(data, payload, part)
        port.link.send(self.name, data)

    def receive(self, neighbour, data):
        """Take bytes from a neighbour's link into account."""
        if neighbour not in self.deframers:
            self.deframers[neighbour] = Deframer()
        deframer = self.deframers[neighbour]
        known = self.known.find(data)
        if known is not None and deframer.skip_frame():
            _, payload, packet = known
            if self.guard is None or self.is_let(payload):
                self.receive_packet(packet)
            return
        damaged = deframer.damaged
        payloads = deframer.feed(data)
        self.damaged += deframer.damaged - damaged
        for payload in payloads:
            if self.is_let(payload):
                self.read(payload)

    def is_let(self, payload):
        """Return True if no guard is there, or it lets a packet's bytes go on."""
        return self.guard is None or self.guard.lets(payload, run_filter)

    def read(self, payload):
        """Take a packet's bytes into account."""
        try:
            packet = read_packet(payload)
        except PacketError:
            self.damaged += 1
            return
        self.receive_packet(packet)

    def receive_packet(self, packet):
        """Take a packet into account: it is for this host, or passed on."""
        if packet.target == self.address:
            self.take(packet)
        else:
            self.pass_on(packet)

    def pass_on(self, packet):
        """Send a packet of another host on with a hop less; drop it if none is left."""
        try:
            passed = packet.passed_on()
        except PacketError:
            self.dropped += 1
            return
        self.send_packet(passed)

    def take(self, packet):
        """Take a packet for this host into account, once it is whole."""
        body = self.assembler.add(packet)
        if body is None:
            return
        kind, data = body[0], body[1:]
        if kind == SEGMENTS:
            self.endpoint.receive(packet.source, data)
        elif kind == WAYS:
            self.hear(packet.source, data)
        else:
            for service in self.services.get(kind, ()):
                service.take(packet.source, data)

    def hear(self, source, data):
        """Take a neighbour's ways into account."""
        # Packets can be sent straight over a port alone, so no other host is a way.
        if source not in self.ports:
            return
        known, vector = self.heard.get(source, (None, ()))
        # Neighbours mostly tell what they told before.
        if data != known:
            try:
                vector = read_vector(data)
            except RouteError:
                return
            self.heard[source] = (data, vector)
        self.routes.hear(source, vector)

    def tick(self):
        """Let time pass: tell neighbours the ways, let streams and what runs here go on."""
        self.clock += 1
        if self.assembler.waiting != {}:
            self.assembler.tick()
        self.routes.tick()
        if self.clock == 1 or self.clock % TELLS_EACH == 0:
            for port in list(self.ports.values()):
                self.tell(port)
        for run in list(self.runs):
            run.tick()
        if self.endpoint.streams != {}:
            self.endpoint.tick()
        if self.endpoint.outbox != []:
            for target, data in self.endpoint.take_outbox():
                self.send(target, SEGMENTS, data)

    def tell(self, port):
        """Send a neighbour the ways, straight over its link."""
        self.send_over(port, self.new_packet(port.neighbour, WAYS, port.bytes_of(self.routes.vector(port.neighbour))))
