"""Links: bytes on the way between two ends, which may be lost, doubled, bent or overtaken."""

from wirestack.errors import RouteError
from wirestack.frames import ESCAPE, MARK

MOST_ON_WAY = 200
LEAST_ROOM = 20
DEEDS = 6
LOSE = 3
DOUBLE = 4
BEND = 5


class Link:
    """Two ends (names), what is on the way as (the end it goes to, bytes, bent), whether it is up, and counts."""

    def __init__(self, first, second, room=60):
        if first == second or room < LEAST_ROOM:
            raise RouteError("no link")
        self.first = first
        self.second = second
        self.room = room
        self.up = True
        self.on_way = []
        self.lost = 0
        self.arrived = 0

    def other(self, name):
        """Return the other end; raise RouteError for a name that is no end."""
        if name not in (self.first, self.second):
            raise RouteError("no end of the link")
        return self.second if name == self.first else self.first

    def send(self, name, data):
        """Put bytes on the way from an end; they are lost if the link is down or full."""
        target = self.other(name)
        if not self.up or len(self.on_way) >= MOST_ON_WAY:
            self.lost += 1
        else:
            self.on_way.append((target, data, False))

    def set_up(self, up):
        """Let the link go up, or down: then all on the way is lost."""
        self.up = up
        if not up:
            self.lost += len(self.on_way)
            self.on_way = []

    def act(self, choice):
        """Do what a choice tells with something on the way, and return (end, bytes) if it arrives, None otherwise.

        A choice tells a place (its remainder by the number of things on the way), and then a deed (the quotient's
        remainder by 6): 0 to 2 let it arrive, 3 loses it, 4 leaves a copy behind, 5 bends a byte unless one was bent.
        """
        if self.on_way == []:
            return None
        place = choice % len(self.on_way)
        rest = choice // len(self.on_way)
        deed = rest % DEEDS
        end, data, bent = self.on_way[place]
        if deed == BEND and not bent and data != ():
            self.on_way[place] = (end, bent_by(data, rest // DEEDS), True)
            return None
        row = self.on_way.pop(place)
        if deed == LOSE:
            self.lost += 1
            return None
        if deed == DOUBLE:
            self.on_way.append(row)
        self.arrived += 1
        return (end, data)

    def next(self):
        """Return (end, bytes) of what has been on the way longest, which arrives; None for nothing."""
        if self.on_way == []:
            return None
        end, data, _ = self.on_way.pop(0)
        self.arrived += 1
        return (end, data)


def bent_by(data, rest):
    """Return bytes bent as what is left of a choice tells: first the place, then by how much."""
    return bent_bytes(data, rest % len(data), 1 + rest // len(data) % 255)


def bent_bytes(data, spot, change):
    """Return bytes with one of them raised by a number, by 256; marks, escapes and what follows these stay."""
    bent = (data[spot] + change) % 256
    if data[spot] in (MARK, ESCAPE) or bent in (MARK, ESCAPE):
        return data
    if spot > 0 and data[spot - 1] == ESCAPE:
        return data
    return data[:spot] + (bent,) + data[spot + 1:]
