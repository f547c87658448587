"""Copies: keys kept by several hosts without a chief, where any host may read and write.

A write is done when enough holders have it, a read when enough have answered. What nobody knows of each other stands
side by side as siblings, until a write that has seen them replaces them; a host has seen what it wrote itself.
Holders that miss something get it later: from writes that go on until all have answered, from reads, and from each
other now and then.
"""

from wirestack.counts import joined_counts, merged, siblings_bytes, whole_siblings
from wirestack.errors import OctetError, StoreError
from wirestack.hosts import COPIES
from wirestack.octets import LETTERS, Reader, blob_bytes, bytes_text, natural_bytes, text_bytes
from wirestack.ring import Ring

MOST_RING = 8
MOST_SIGNS = 100
SEND_EACH = 8
TELL_EACH = 30
WORDS = ("read", "write", "answer", "tell")


def check_text(text):
    """Raise StoreError for a key or a text that is too long or cannot be told."""
    if len(text) > MOST_SIGNS or any(sign not in LETTERS for sign in text):
        raise StoreError("no key or text")


def message_bytes(word, number, key, siblings):
    """Return the bytes of a message."""
    head = natural_bytes(WORDS.index(word)) + natural_bytes(number)
    return head + blob_bytes(text_bytes(key)) + siblings_bytes(siblings)


def read_message(data):
    """Return (word, number, key, siblings) of bytes; raise StoreError for others."""
    reader = Reader(data)
    try:
        place = reader.natural()
        number = reader.natural()
        key = bytes_text(reader.blob())
    except OctetError:
        raise StoreError("no message")
    if place >= len(WORDS):
        raise StoreError("no message")
    return (WORDS[place], number, key, whole_siblings(data[reader.place:]))


class Deed:
    """A read or a write that is under way: its word, key, when it was asked, what is written, and answers by holder."""

    def __init__(self, word, key, time, siblings, holders):
        self.word = word
        self.key = key
        self.time = time
        self.siblings = siblings
        self.holders = holders
        self.answers = {}
        self.sent = time

    def missing(self):
        """Return the holders that have not answered."""
        return [holder for holder in self.holders if holder not in self.answers]

    def result(self):
        """Return what was written, or what was read as far as holders have answered."""
        if self.word == "write":
            return self.siblings
        found = ()
        for siblings in self.answers.values():
            found = found + siblings
        return merged(found)


class CopyStore:
    """A host's part in a ring: what it keeps by key, its deeds under way, its events, and the counts it last wrote.

    An event is (deed's number, "read" or "write", key, time asked, time answered, siblings): what was read, or written.
    """

    def __init__(self, host, ring, many=3, reads=2, writes=2):
        if not 0 < reads <= many or not 0 < writes <= many or not many <= len(ring.addresses) <= MOST_RING:
            raise StoreError("no store")
        if reads + writes <= many:
            raise StoreError("reads and writes may miss each other")
        self.host = host
        self.ring = ring
        self.many = many
        self.enough = {"read": reads, "write": writes}
        self.rows = {}
        self.deeds = {}
        self.events = []
        self.last_written = {}
        self.last_number = 0
        self.turn = 0
        self.last_message = None
        self.last_data = ()
        host.add_service(COPIES, self)

    def siblings(self, key):
        """Return what this host keeps of a key."""
        return self.rows.get(key, ())

    def holders(self, key):
        """Return the hosts that keep a key."""
        return self.ring.holders(key, self.many)

    def read(self, key):
        """Begin to read a key and return the deed's number; raise StoreError for a bad key."""
        check_text(key)
        return self.begin("read", key, ())

    def write(self, key, text, seen=()):
        """Begin to write a key, with what was seen before, and return the deed's number; None as text drops the key.

        What the counts that were seen know is replaced. Raise StoreError for a bad key or text.
        """
        check_text(key)
        check_text("" if text is None else text)
        counts = self.next_counts(key, seen)
        self.last_written[key] = counts
        return self.begin("write", key, ((counts, text),))

    def next_counts(self, key, seen):
        """Return the counts of the next write of a key, which has seen what this host wrote itself."""
        known = joined_counts(seen, self.last_written.get(key, ()))
        own = self.host.address
        return joined_counts(known, ((own, dict(known).get(own, 0) + 1),))

    def begin(self, word, key, siblings):
        """Begin a deed and return its number."""
        self.last_number += 1
        number = self.last_number
        deed = Deed(word, key, self.host.clock, siblings, self.holders(key))
        self.deeds[number] = deed
        self.send_deed(number, deed)
        if self.host.address in deed.holders:
            if word == "write":
                self.keep(key, siblings)
            self.hear(self.host.address, number, self.siblings(key))
        return number

    def send_deed(self, number, deed):
        """Send a deed's message to each other holder that has not answered."""
        for target in deed.missing():
            if target != self.host.address:
                self.send(target, deed.word, number, deed.key, deed.siblings)

    def tick(self):
        """Send what is due of deeds under way, again each 8 ticks; and now and then tell a holder what is kept here."""
        clock = self.host.clock
        for number in list(self.deeds):
            deed = self.deeds[number]
            if clock - deed.sent >= SEND_EACH:
                deed.sent = clock
                self.send_deed(number, deed)
        if clock % TELL_EACH == 0 and self.rows != {}:
            keys = sorted(self.rows)
            key = keys[self.turn % len(keys)]
            self.turn += 1
            self.tell(key, self.holders(key))

    def tell(self, key, targets):
        """Tell other hosts what is kept here of a key."""
        for target in targets:
            if target != self.host.address:
                self.send(target, "tell", 0, key, self.siblings(key))

    def send(self, target, word, number, key, siblings):
        """Send a message to another host."""
        message = (word, number, key, siblings)
        # The holders of a key are mostly sent the same.
        if message != self.last_message:
            self.last_data = message_bytes(word, number, key, siblings)
            self.last_message = message
        self.host.send(target, COPIES, self.last_data)

    def take(self, source, data):
        """Take a message into account; one that is none is left out."""
        try:
            word, number, key, siblings = read_message(data)
        except StoreError:
            return
        if word == "answer":
            self.hear(source, number, siblings)
            return
        if word != "read":
            self.keep(key, siblings)
        if word != "tell":
            self.send(source, "answer", number, key, self.siblings(key))

    def keep(self, key, siblings):
        """Keep siblings of a key beside those that are kept, as far as they are not known."""
        # Most of what is told is kept already.
        if siblings == self.siblings(key):
            return
        found = merged(self.siblings(key) + siblings)
        if found != ():
            self.rows[key] = found

    def hear(self, source, number, siblings):
        """Note that a holder has answered a deed; it is told as an event when enough have, and ends when all have."""
        if number not in self.deeds or source not in self.deeds[number].missing():
            return
        deed = self.deeds[number]
        deed.answers[source] = siblings
        if len(deed.answers) == self.enough[deed.word]:
            self.events.append((number, deed.word, deed.key, deed.time, self.host.clock, deed.result()))
        if deed.missing() == []:
            del self.deeds[number]
            if deed.word == "read":
                self.tell_lacking(deed)

    def tell_lacking(self, deed):
        """Tell those that lacked something of what was read."""
        result = deed.result()
        for target, siblings in deed.answers.items():
            if siblings == result:
                continue
            if target == self.host.address:
                self.keep(deed.key, result)
            else:
                self.send(target, "tell", 0, deed.key, result)

    def is_calm(self):
        """Return True if no deed is under way."""
        return self.deeds == {}


def ring_of(stores):
    """Return the ring of some hosts' addresses."""
    return Ring([address_in(one) for one in stores])


def address_in(one):
    """Return the address of a store's host; before there are stores, a host tells its own."""
    return one.host.address if isinstance(one, CopyStore) else one.address


def same_copies(stores, key):
    """Return True if all holders of a key keep the same of it."""
    kept = [store.siblings(key) for store in stores if store.host.address in store.holders(key)]
    return all([siblings == kept[0] for siblings in kept])
