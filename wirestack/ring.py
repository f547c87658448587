"""Rings: which hosts keep a key, by points on a circle."""

from wirestack.errors import StoreError

POINTS = 1000003
POINTS_OF_HOST = 8


def point_of(text):
    """Return a text's point: from 7 on, 31 times the value plus each character's place from 1 on, squared plus 3.

    Each step is by the circle's 1000003 points.
    """
    point = 7
    for sign in text:
        point = (31 * point + ord(sign)) % POINTS
        point = (point * point + 3) % POINTS
    return point


class Ring:
    """Addresses of hosts, and their points, ascending: each host has eight."""

    def __init__(self, addresses):
        self.addresses = tuple(sorted(set(addresses)))
        rows = []
        for address in self.addresses:
            for number in range(POINTS_OF_HOST):
                rows.append((point_of(f"{address}/{number}"), address))
        self.rows = tuple(sorted(rows))

    def holders(self, key, many):
        """Return the first so many different hosts from a key's point on, around the circle; StoreError for fewer."""
        if not 0 < many <= len(self.addresses):
            raise StoreError("there are not so many hosts")
        point = point_of(key)
        behind = [address for place, address in self.rows if place >= point]
        ahead = [address for place, address in self.rows if place < point]
        found = {address: True for address in behind + ahead}
        return tuple(list(found)[:many])

    def with_host(self, address):
        """Return the ring with one more host."""
        return Ring(self.addresses + (address,))

    def without_host(self, address):
        """Return the ring without a host; raise StoreError if it is not there."""
        if address not in self.addresses:
            raise StoreError("the host is not there")
        return Ring([other for other in self.addresses if other != address])
