"""Zones: names in parts, each kept where it belongs, found by going from the root down."""

from wirestack.errors import HostError

NAME_LETTERS = "abcdefghijklmnopqrstuvwxyz0123456789-"
MOST_PARTS = 8
MOST_PART = 20
FIRST_NO_ADDRESS = 65536
FIRST_NO_KEEP = 1000
MOST_OTHER_NAMES = 8
ROOT = ""


def parts_of_name(name):
    """Return a name's parts, the last one first; raise HostError for none: "" is the root."""
    if name == ROOT:
        return ()
    parts = name.split(".")
    if len(parts) > MOST_PARTS or any([not 0 < len(part) <= MOST_PART for part in parts]):
        raise HostError("no name")
    if any([sign not in NAME_LETTERS for part in parts for sign in part]):
        raise HostError("no name")
    return tuple(parts[::-1])


def is_below(name, zone):
    """Return True if a name is a zone's own, or below it."""
    parts = parts_of_name(zone)
    return parts_of_name(name)[:len(parts)] == parts


def nearest_of(zones, name):
    """Return the zone of the most parts that a name stands in, None if it stands in none of them."""
    found = None
    for zone in zones:
        if is_below(name, zone) and (found is None or is_below(zone, found)):
            found = zone
    return found


class Zone:
    """A zone's name, rows by name: ("at", address), ("as", other name), and zones below: name to a server's address.

    What is told keeps for so many ticks.
    """

    def __init__(self, name, keep):
        parts_of_name(name)
        if not 0 <= keep < FIRST_NO_KEEP:
            raise HostError("nothing keeps so long")
        self.name = name
        self.keeps = keep
        self.rows = {}
        self.below = {}

    def zone_below(self, name):
        """Return the nearest zone below that a name stands in, None if it stands in none."""
        return nearest_of(self.below, name)

    def put(self, name, row):
        """Tell an address, or another name, of a name; raise HostError for a name elsewhere, or in a zone below."""
        if not is_below(name, self.name) or self.zone_below(name) is not None:
            raise HostError("the name is not told here")
        if row[0] == "as":
            parts_of_name(row[1])
        elif row[0] != "at" or not 1 <= row[1] < FIRST_NO_ADDRESS:
            raise HostError("no row")
        self.rows[name] = (row[0], row[1])

    def hand_on(self, name, address):
        """Hand a part of the zone to another server; rows in it go. Raise HostError for a name that cannot be."""
        if name == self.name or not is_below(name, self.name) or not 1 <= address < FIRST_NO_ADDRESS:
            raise HostError("this cannot be handed on")
        self.below[name] = address
        self.rows = {one: row for one, row in self.rows.items() if not is_below(one, name)}

    def answer(self, name):
        """Return ("at", address, keep), ("as", name, keep), ("ask", zone, address, keep) or ("none", keep).

        A name elsewhere is ("elsewhere",).
        """
        if not is_below(name, self.name):
            return ("elsewhere",)
        zone = self.zone_below(name)
        if zone is not None:
            return ("ask", zone, self.below[zone], self.keeps)
        if name not in self.rows:
            return ("none", self.keeps)
        word, worth = self.rows[name]
        return (word, worth, self.keeps)


class Resolver:
    """The root server's address, a function that asks a server for a name, and what was told, with its end.

    Ends are by the clock. Kept are rows and zones' servers; what is no longer fresh is asked for anew.
    """

    def __init__(self, root, ask):
        self.root = root
        self.asks = ask
        # What was told of names, as (row, end), and of zones, as (server's address, end).
        self.rows = {}
        self.servers = {}
        self.asked = 0

    def resolve(self, name, time):
        """Return the address of a name, None if there is none; raise HostError for a ring of other names, or no way."""
        at = name
        for _ in range(1 + MOST_OTHER_NAMES):
            row = self.row_of(at, time)
            if row[0] != "as":
                return row[1] if row[0] == "at" else None
            at = row[1]
        raise HostError("too many names")

    def row_of(self, name, time):
        """Return what is told of a name, by what is kept if it is fresh; raise HostError if there is no way."""
        parts_of_name(name)
        if name in self.rows and time < self.rows[name][1]:
            return self.rows[name][0]
        zone = nearest_of([one for one, row in self.servers.items() if time < row[1]], name)
        address = self.root if zone is None else self.servers[zone][0]
        zone = ROOT if zone is None else zone
        told = self.ask_server(address, name)
        while told[0] == "ask":
            # Only what is handed further down comes to an end.
            if told[1] == zone or not is_below(told[1], zone):
                raise HostError("no way")
            zone, address = told[1], told[2]
            self.servers[zone] = (address, time + told[3])
            told = self.ask_server(address, name)
        if told[0] == "elsewhere":
            raise HostError("no way")
        self.rows[name] = (told[:-1], time + told[-1])
        return told[:-1]

    def ask_server(self, address, name):
        """Return what a server tells of a name."""
        self.asked += 1
        ask = self.asks
        return ask(address, name)
