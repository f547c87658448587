"""Balance: which of several servers gets a piece of work."""

from wirestack.errors import HostError
from wirestack.ring import point_of

MOST_WEIGHT = 100
MOST_FAILURES = 3
REST = 20


class Server:
    """A name, a weight, what it is ahead or behind by, failures in a row, until when it rests, and its load."""

    def __init__(self, name, weight):
        self.name = name
        self.weight = weight
        self.ahead = 0
        self.fails = 0
        self.rests_until = 0
        self.load = 0


class Balancer:
    """Servers by name, in the order in which they were told."""

    def __init__(self, rows):
        names = [name for name, weight in rows]
        if names == [] or len(set(names)) != len(names):
            raise HostError("no servers, or one told twice")
        if any([not 1 <= weight <= MOST_WEIGHT for name, weight in rows]):
            raise HostError("no weight")
        self.servers = {name: Server(name, weight) for name, weight in rows}

    def server(self, name):
        """Return a server; raise HostError for an unknown one."""
        if name not in self.servers:
            raise HostError("no such server")
        return self.servers[name]

    def healthy(self, time):
        """Return the servers that do not rest at a time; all of them if all rest."""
        awake = [server for server in self.servers.values() if time >= server.rests_until]
        return awake if awake != [] else list(self.servers.values())

    def next_by_turn(self, time):
        """Return the name whose turn it is, by weights: each gets its weight, the greatest goes and gives all back.

        The first one of equals goes; servers that rest neither get nor go.
        """
        healthy = self.healthy(time)
        best = healthy[0]
        for server in healthy:
            server.ahead += server.weight
            if server.ahead > best.ahead:
                best = server
        best.ahead -= sum([server.weight for server in healthy])
        return best.name

    def next_by_load(self, time):
        """Return the name with the least load for its weight, the first of equals; its load grows by 1."""
        healthy = self.healthy(time)
        best = healthy[0]
        for server in healthy:
            # Loads for weights are compared without dividing.
            if server.load * best.weight < best.load * server.weight:
                best = server
        best.load += 1
        return best.name

    def note_end(self, name, good, time):
        """Note that a piece of work ended, well or not: three failures in a row let a server rest for 20 ticks."""
        server = self.server(name)
        server.load = max(0, server.load - 1)
        server.fails = 0 if good else server.fails + 1
        if server.fails >= MOST_FAILURES:
            server.fails = 0
            server.rests_until = time + REST

    def sticky(self, key, time):
        """Return the name that a key always gets while the same servers are healthy: the greatest of their points.

        A server's point for a key is that of "server/key", times its weight; the later name of equals.
        """
        rows = [(point_of(f"{server.name}/{key}") * server.weight, server.name) for server in self.healthy(time)]
        return max(rows)[1]
