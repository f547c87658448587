"""Routes: tables of which neighbour leads to which address, learnt from neighbours' tables."""

from wirestack.errors import OctetError, RouteError
from wirestack.octets import Reader, fixed_bytes, fixed_number, natural_bytes

FAR = 16
AGE_OF_FAR = 12
AGE_OF_DROPPED = 24


class Row:
    """The neighbour that leads to an address, how far it is, and how long ago that was heard."""

    def __init__(self, neighbour, distance, age):
        self.neighbour = neighbour
        self.distance = distance
        self.age = age

    def shown(self):
        """Return (neighbour, distance)."""
        return (self.neighbour, self.distance)


class Routes:
    """An address, and rows of the ways to others by their addresses."""

    def __init__(self, address):
        self.address = address
        self.rows = {}

    def distance_to(self, target):
        """Return how far an address is, 0 for the own one, 16 if no way is known."""
        if target == self.address:
            return 0
        return self.rows[target].distance if target in self.rows else FAR

    def next_hop(self, target):
        """Return the neighbour that leads to an address; raise RouteError if no way is known."""
        if target not in self.rows or self.rows[target].distance >= FAR:
            raise RouteError("no way is known")
        return self.rows[target].neighbour

    def vector(self, neighbour):
        """Return (address, distance) rows for a neighbour, ascending: what is reached by it is told as too far."""
        rows = [(at, FAR if row.neighbour == neighbour else row.distance) for at, row in self.rows.items()]
        rows.append((self.address, 0))
        return tuple(sorted(rows))

    def hear(self, neighbour, vector):
        """Take a neighbour's rows into account; return whether something changed."""
        changed = False
        for address, told in vector:
            distance = told + 1 if told < FAR else FAR
            row = self.rows.get(address)
            # Mostly what was heard before is told again.
            if row is not None and row.distance == distance < FAR and row.neighbour == neighbour:
                row.age = 0
            elif address != self.address and self.hear_row(neighbour, address, distance):
                changed = True
        return changed

    def hear_row(self, neighbour, address, distance):
        """Take a row into account, with its distance from here; return whether something changed."""
        if address not in self.rows:
            if distance < FAR:
                self.rows[address] = Row(neighbour, distance, 0)
            return distance < FAR
        row = self.rows[address]
        if row.neighbour != neighbour and distance >= row.distance:
            return False
        changed = row.neighbour != neighbour or row.distance != distance
        row.neighbour = neighbour
        row.distance = distance
        # That an address is too far is no news of it: such a row ages on, or it would never be dropped.
        if distance < FAR:
            row.age = 0
        return changed

    def lose(self, neighbour):
        """Forget the ways that lead by a neighbour: they are too far."""
        for row in self.rows.values():
            if row.neighbour == neighbour:
                row.distance = FAR

    def tick(self):
        """Let time pass: ways that were not heard of for 12 ticks are too far, and such ones are dropped later."""
        for address in list(self.rows):
            row = self.rows[address]
            row.age += 1
            if row.age >= AGE_OF_FAR:
                row.distance = FAR
            if row.age >= AGE_OF_DROPPED:
                del self.rows[address]

    def shown(self):
        """Return (address, neighbour, distance) of all known ways, ascending."""
        rows = sorted([(address, row.neighbour, row.distance) for address, row in self.rows.items()])
        return tuple([row for row in rows if row[2] < FAR])


def vector_bytes(vector):
    """Return the bytes of rows."""
    data = natural_bytes(len(vector))
    for address, distance in vector:
        data = data + fixed_bytes(address, 2) + natural_bytes(distance)
    return data


def read_vector(data):
    """Return the rows of bytes; raise RouteError for others."""
    reader = Reader(data)
    found = []
    try:
        for _ in range(reader.natural()):
            address = fixed_number(reader.take(2))
            found.append((address, reader.natural()))
    except OctetError:
        raise RouteError("no rows")
    addresses = [address for address, distance in found]
    ascending = all([one < other for one, other in zip(addresses, addresses[1:])])
    if not reader.at_end() or not ascending:
        raise RouteError("no rows")
    return tuple(found)
