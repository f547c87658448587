"""Networks: hosts and links that go on by choices, or in fair rounds."""

from wirestack.errors import HostError
from wirestack.hosts import Host, KnownFrames
from wirestack.links import Link

MOST_HOSTS = 30
MOST_ROUNDS = 6000
EVENTS = 8
TICKS = 0
UP_OR_DOWN = 1
UP_OR_DOWN_EACH = 8


class Network:
    """Hosts by name, links in order, and how many rounds were gone."""

    def __init__(self):
        self.hosts = {}
        self.links = []
        self.time = 0
        self.known = KnownFrames()

    def add_host(self, name):
        """Add a host and return it; its address is one more than the last one's; raise HostError if it is there."""
        if name in self.hosts or len(self.hosts) >= MOST_HOSTS:
            raise HostError("there is no place for the host")
        host = Host(name, len(self.hosts) + 1)
        host.known = self.known
        self.hosts[name] = host
        return host

    def add_link(self, first, second, room=60):
        """Add a link between two hosts and return it; raise HostError if there is one."""
        if first not in self.hosts or second not in self.hosts:
            raise HostError("no such host")
        one = self.hosts[first]
        other = self.hosts[second]
        if other.address in one.ports:
            raise HostError("a link is there")
        link = Link(first, second, room)
        one.add_port(other.address, link)
        other.add_port(one.address, link)
        self.links.append(link)
        return link

    def act(self, choice):
        """Do what a choice tells: 0 a round of ticks, 1 a link goes down or up, else something with what is on the way.

        The remainder by 8 tells the event, the quotient's remainder by the number of links the link, and the rest its
        choice; a link goes down or up only if that choice's remainder by 8 is 0.
        """
        event = choice % EVENTS
        if event == TICKS:
            self.pass_time()
            return
        if self.links == []:
            return
        quotient = choice // EVENTS
        link = self.links[quotient % len(self.links)]
        rest = quotient // len(self.links)
        if event != UP_OR_DOWN:
            self.deliver(link, link.act(rest))
        elif rest % UP_OR_DOWN_EACH == 0:
            link.set_up(not link.up)

    def deliver(self, link, arrived):
        """Hand (end, bytes) that arrived over a link to the host at that end, None for nothing."""
        if arrived is not None:
            end, data = arrived
            self.hosts[end].receive(self.hosts[link.other(end)].address, data)

    def pass_time(self):
        """Let time pass for all hosts, in order of their names."""
        self.time += 1
        for name in sorted(self.hosts):
            self.hosts[name].tick()

    def round(self):
        """Let all that is on the way arrive, in order, and then time pass."""
        rows = [(link, len(link.on_way)) for link in self.links]
        for link, many in rows:
            for _ in range(many):
                self.deliver(link, link.next())
        self.pass_time()

    def settle(self, done):
        """Let all links go up and go fair rounds until a function answers True; raise HostError if it never does."""
        for link in self.links:
            link.set_up(True)
        for _ in range(MOST_ROUNDS):
            if done():
                return
            self.round()
        if not done():
            raise HostError("it does not end")
