"""Certificates: names that somebody vouches for, and chains of them up to somebody who is trusted.

A mark is a number that hangs on everything else in the certificate and on the issuer's key, by mixed numbers.
"""

from wirestack.errors import SealError
from wirestack.octets import LETTERS
from wirestack.seals import mixed

NAME_LETTERS = "abcdefghijklmnopqrstuvwxyz0123456789-."
MOST_NAME = 40
FIRST_NO_KEY = 10 ** 9
FIRST_NO_TIME = 10 ** 6
LEAST_BELOW = -1
MOST_BELOW = 4
MOST_CHAIN = 5


class Certificate:
    """A name, its key, the issuer's name, a serial, the first and last time, how many may stand below it, a mark.

    Below a certificate with 0 nobody stands but those it names itself; -1 lets it issue nothing.
    """

    def __init__(self, name, key, issuer, serial, first, last, below, mark):
        self.name = name
        self.key = key
        self.issuer = issuer
        self.serial = serial
        self.first = first
        self.last = last
        self.below = below
        self.mark = mark

    def shown(self):
        """Return (name, key, issuer, serial, first, last, below, mark)."""
        return self.told() + (self.mark,)

    def told(self):
        """Return all that the mark hangs on but the issuer's key."""
        return (self.name, self.key, self.issuer, self.serial, self.first, self.last, self.below)


def name_number(name):
    """Return a number that hangs on a name; raise SealError for none: 1 to 40 small letters, digits, "-" and "."."""
    if not 0 < len(name) <= MOST_NAME or any([sign not in NAME_LETTERS for sign in name]):
        raise SealError("no name")
    if name[0] == "." or name[-1] == ".":
        raise SealError("no name")
    return mixed([LETTERS.find(sign) + 1 for sign in name])


def mark_of(row, key):
    """Return the mark of (name, key, issuer, serial, first, last, below) by an issuer's key."""
    name, own, issuer, serial, first, last, below = row
    return mixed((key, name_number(name), own, name_number(issuer), serial, first, last, below + 1, key))


def is_key(key):
    """Return True for a number that may be a key."""
    return 1 <= key < FIRST_NO_KEY


def issued(row, key):
    """Return the certificate of a row with its mark by the issuer's key; raise SealError for what cannot be issued."""
    name, own, issuer, serial, first, last, below = row
    good = is_key(own) and is_key(key) and serial >= 0 and LEAST_BELOW <= below <= MOST_BELOW
    if not good or not 0 <= first <= last < FIRST_NO_TIME:
        raise SealError("no certificate")
    return Certificate(name, own, issuer, serial, first, last, below, mark_of(row, key))


def covers(name, other):
    """Return True if a name is the other one, or the other one stands below it: "b.c" covers "a.b.c"."""
    return name == other or other.endswith("." + name)


class Trust:
    """Keys of those that are trusted by name, and (issuer, serial) of certificates that were taken back."""

    def __init__(self):
        self.trusted = {}
        self.gone = {}

    def put(self, name, key):
        """Trust a name's key; raise SealError for a bad name or key."""
        name_number(name)
        if not is_key(key):
            raise SealError("no key")
        self.trusted[name] = key

    def take_back(self, issuer, serial):
        """Note that an issuer's certificate counts no more."""
        self.gone[(issuer, serial)] = True

    def check(self, chain, name, time):
        """Return the key of a name by a chain, the first one being the name's own; raise SealError and say why.

        The last one's issuer is trusted. The reasons: "no chain", "another name", "not now", "taken back", "no right"
        (to issue, so deep, or for such a name), "nobody trusted", "a wrong mark": the first that is found, from the
        first certificate on.
        """
        if not 0 < len(chain) <= MOST_CHAIN:
            raise SealError("no chain")
        own = chain[0]
        if not covers(own.name, name) or (own.name != name and own.below < 0):
            raise SealError("another name")
        for place in range(len(chain)):
            self.check_one(chain, place, time)
        return own.key

    def check_one(self, chain, place, time):
        """Raise SealError for what is wrong with a certificate of a chain, and say why."""
        one = chain[place]
        if not one.first <= time <= one.last:
            raise SealError("not now")
        if (one.issuer, one.serial) in self.gone:
            raise SealError("taken back")
        if mark_of(one.told(), self.issuer_key(chain, place)) != one.mark:
            raise SealError("a wrong mark")

    def issuer_key(self, chain, place):
        """Return the key of who issued a certificate of a chain; raise SealError if that one may not, or is unknown."""
        one = chain[place]
        if place + 1 < len(chain):
            upper = chain[place + 1]
            # As many stand below the upper one as stand ahead of the lower one in the chain.
            if upper.name != one.issuer or not covers(upper.name, one.name) or upper.below < place:
                raise SealError("no right")
            return upper.key
        if one.issuer not in self.trusted:
            raise SealError("nobody trusted")
        return self.trusted[one.issuer]
