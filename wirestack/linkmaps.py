"""Link maps: routers that tell everybody of their own links, and reckon the cheapest ways by themselves."""

from wirestack.errors import OctetError, RouteError
from wirestack.octets import Reader, fixed_bytes, fixed_number, natural_bytes, sum_bytes

MOST_LINKS = 30
MOST_COST = 1000
FIRST_NO_ADDRESS = 65536
MOST_AGE = 60


class Statement:
    """Who tells it, its serial, and the links: (neighbour's address, cost), ascending."""

    def __init__(self, address, serial, links):
        self.address = address
        self.serial = serial
        self.links = tuple(links)

    def shown(self):
        """Return (address, serial, links)."""
        return (self.address, self.serial, self.links)


def statement_of(address, serial, links):
    """Return a statement of links in any order.

    Raise RouteError for a link told twice or to itself, too many, or other costs than 1 to 1000.
    """
    rows = sorted(links)
    neighbours = [one for one, cost in rows]
    if len(set(neighbours)) != len(rows) or address in neighbours or len(rows) > MOST_LINKS:
        raise RouteError("no statement")
    if any([not 1 <= cost <= MOST_COST or not 1 <= one < FIRST_NO_ADDRESS for one, cost in rows]):
        raise RouteError("no statement")
    if not 1 <= address < FIRST_NO_ADDRESS:
        raise RouteError("no statement")
    return Statement(address, serial, rows)


def statement_bytes(statement):
    """Return a statement's bytes, with a checksum at the end."""
    data = fixed_bytes(statement.address, 2) + natural_bytes(statement.serial) + natural_bytes(len(statement.links))
    for neighbour, cost in statement.links:
        data = data + fixed_bytes(neighbour, 2) + natural_bytes(cost)
    return data + sum_bytes(data)


def read_statement(data):
    """Return the statement of bytes; raise RouteError for others."""
    if len(data) < 4 or sum_bytes(data[:-4]) != data[-4:]:
        raise RouteError("a statement is damaged")
    reader = Reader(data[:-4])
    rows = []
    try:
        address = fixed_number(reader.take(2))
        serial = reader.natural()
        for _ in range(reader.natural()):
            neighbour = fixed_number(reader.take(2))
            rows.append((neighbour, reader.natural()))
    except OctetError:
        raise RouteError("a statement is damaged")
    found = statement_of(address, serial, rows)
    # Links in another order would be a second way to tell the same.
    if not reader.at_end() or list(found.links) != rows:
        raise RouteError("a statement is damaged")
    return found


class LinkMap:
    """A router's address, its own serial, and statements by address with how many ticks ago each was heard."""

    def __init__(self, address):
        self.address = address
        self.serial = 0
        self.statements = {}
        self.ages = {}

    def tell(self, links):
        """Make a new statement of the router's own links, keep it and return it; raise RouteError for bad links."""
        statement = statement_of(self.address, self.serial + 1, links)
        self.serial = statement.serial
        self.keep(statement)
        return statement

    def keep(self, statement):
        """Keep a statement as heard now."""
        self.statements[statement.address] = statement
        self.ages[statement.address] = 0

    def hear(self, statement):
        """Keep a statement if it is newer than the one that is kept of its router; return whether it was.

        One of the router's own address is never kept; a greater serial of it is gone on from.
        """
        if statement.address == self.address:
            self.serial = max(self.serial, statement.serial)
            return False
        kept = self.statements.get(statement.address)
        if kept is not None and statement.serial <= kept.serial:
            return False
        self.keep(statement)
        return True

    def tick(self):
        """Let time pass: statements of others that are 60 ticks old are forgotten."""
        for address in list(self.ages):
            self.ages[address] += 1
            if self.ages[address] >= MOST_AGE and address != self.address:
                del self.ages[address]
                del self.statements[address]

    def both_links(self):
        """Return a table of (address, neighbour) to cost, of links that both ends tell; the greater cost counts."""
        told = {}
        for statement in self.statements.values():
            for neighbour, cost in statement.links:
                told[(statement.address, neighbour)] = cost
        found = {}
        for address, neighbour in told:
            if (neighbour, address) in told:
                found[(address, neighbour)] = max(told[(address, neighbour)], told[(neighbour, address)])
        return found

    def cheapest_ways(self):
        """Return a table of addresses to (cost, first neighbour) of the cheapest ways.

        Of ways of the same cost the one with the least neighbour counts.
        """
        links = {}
        for (address, neighbour), cost in self.both_links().items():
            links.setdefault(address, []).append((neighbour, cost))
        found = {}
        # The cheapest ways so far to addresses to which there may be cheaper ones still.
        open_ways = {neighbour: (cost, neighbour) for neighbour, cost in links.get(self.address, [])}
        while open_ways != {}:
            cost, first, address = min([(way[0], way[1], one) for one, way in open_ways.items()])
            found[address] = open_ways.pop(address)
            for neighbour, more in links[address]:
                way = (cost + more, first)
                if neighbour == self.address or neighbour in found:
                    continue
                if neighbour not in open_ways or way < open_ways[neighbour]:
                    open_ways[neighbour] = way
        return found

    def next_on_way(self, target):
        """Return the neighbour that the way to an address begins with; raise RouteError if there is none."""
        ways = self.cheapest_ways()
        if target not in ways:
            raise RouteError("no way")
        return ways[target][1]
