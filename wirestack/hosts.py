"""Hosts: machines with an address that pass packets on, learn ways, and keep streams for what runs on them."""

from wirestack.errors import PacketError, RouteError
from wirestack.filters import run_filter
from wirestack.frames import MOST_PAYLOAD, Deframer, frame_bytes
from wirestack.octets import natural_bytes
from wirestack.packets import MOST_HOPS, Assembler, Packet, packet_bytes, parts_of, read_packet
from wirestack.routes import Routes, read_vector, vector_bytes
from wirestack.streams import Endpoint

# The classes of packets' bodies.
SEGMENTS = 1
WAYS = 2
NAMES = 3
COPIES = 4
TELLS_EACH = 3
# The bytes of a packet but its number and its part: those of fixed size, two of the part's length, and the checksum.
PACKET_AROUND = 14


class Port:
    """A neighbour's address, and the link to it."""

    def __init__(self, neighbour, link):
        self.neighbour = neighbour
        self.link = link


class Host:
    """A name, an address, ports by neighbours' addresses, ways, streams, packets' parts, what runs, a guard or None."""

    def __init__(self, name, address):
        self.name = name
        self.address = address
        self.clock = 0
        self.ports = {}
        self.deframers = {}
        self.routes = Routes(address)
        self.endpoint = Endpoint(address)
        self.assembler = Assembler()
        self.runs = []
        # Who takes bodies of further classes, by class.
        self.services = {}
        self.guard = None
        self.last_number = 0
        self.damaged = 0
        self.dropped = 0

    def guard_by(self, guard):
        """Let a guard look at the packets that come, None for nobody."""
        self.guard = guard

    def add_port(self, neighbour, link):
        """Let a link lead to a neighbour."""
        self.ports[neighbour] = Port(neighbour, link)

    def add_service(self, kind, service):
        """Let something take the bodies of a class that come to this host."""
        if kind not in self.services:
            self.services[kind] = []
        self.services[kind].append(service)

    def send(self, target, kind, data):
        """Send bytes of a class to a host, in packets; they are lost if no way is known."""
        self.send_packet(self.new_packet(target, kind, data))

    def new_packet(self, target, kind, data):
        """Return a packet of this host with the next number."""
        self.last_number += 1
        return Packet(self.address, target, MOST_HOPS, self.last_number, 0, 1, (kind,) + data)

    def send_packet(self, packet):
        """Send a packet over the neighbour that leads to its target; drop it if no way is known."""
        try:
            neighbour = self.routes.next_hop(packet.target)
        except RouteError:
            self.dropped += 1
            return
        self.send_over(self.ports[neighbour], packet)

    def send_over(self, port, packet):
        """Send a packet over a link, in parts where the link's room, or a frame, is smaller."""
        most = MOST_PAYLOAD - PACKET_AROUND - len(natural_bytes(packet.number))
        parts = parts_of(packet, min(port.link.room, most))
        for data in [frame_bytes(packet_bytes(part)) for part in parts]:
            port.link.send(self.name, data)

    def receive(self, neighbour, data):
        """Take bytes from a neighbour's link into account."""
        if neighbour not in self.deframers:
            self.deframers[neighbour] = Deframer()
        deframer = self.deframers[neighbour]
        damaged = deframer.damaged
        payloads = deframer.feed(data)
        self.damaged += deframer.damaged - damaged
        for payload in payloads:
            if self.guard is None or self.guard.lets(payload, run_filter):
                self.receive_packet(payload)

    def receive_packet(self, payload):
        """Take a packet's bytes into account: it is for this host, or passed on."""
        try:
            packet = read_packet(payload)
        except PacketError:
            self.damaged += 1
            return
        if packet.target == self.address:
            self.take(packet)
        else:
            self.pass_on(packet)

    def pass_on(self, packet):
        """Send a packet of another host on with a hop less; drop it if none is left."""
        try:
            passed = packet.passed_on()
        except PacketError:
            self.dropped += 1
            return
        self.send_packet(passed)

    def take(self, packet):
        """Take a packet for this host into account, once it is whole."""
        body = self.assembler.add(packet)
        if body is None:
            return
        kind, data = body[0], body[1:]
        if kind == SEGMENTS:
            self.endpoint.receive(packet.source, data)
        elif kind == WAYS:
            self.hear(packet.source, data)
        else:
            for service in self.services.get(kind, ()):
                service.take(packet.source, data)

    def hear(self, source, data):
        """Take a neighbour's ways into account."""
        # Packets can be sent straight over a port alone, so no other host is a way.
        if source not in self.ports:
            return
        try:
            vector = read_vector(data)
        except RouteError:
            return
        self.routes.hear(source, vector)

    def tick(self):
        """Let time pass: tell neighbours the ways, let streams and what runs here go on."""
        self.clock += 1
        self.assembler.tick()
        self.routes.tick()
        if self.clock == 1 or self.clock % TELLS_EACH == 0:
            for port in list(self.ports.values()):
                self.tell(port)
        for run in list(self.runs):
            run.tick()
        self.endpoint.tick()
        for target, data in self.endpoint.take_outbox():
            self.send(target, SEGMENTS, data)

    def tell(self, port):
        """Send a neighbour the ways, straight over its link."""
        data = vector_bytes(self.routes.vector(port.neighbour))
        self.send_over(port, self.new_packet(port.neighbour, WAYS, data))
