"""Broker: texts on topics that come to all who asked for them, each once and in order."""

from wirestack.errors import MessageError, OctetError
from wirestack.hosts import NEWS
from wirestack.octets import LETTERS, Reader, blob_bytes, bytes_text, natural_bytes, text_bytes
from wirestack.topics import fits_topic, pattern_parts, topic_parts

WISHES = ("publish", "keep", "follow", "leave")
MOST_NEWS = 200
SEND_EACH = 8
# The kinds of messages between a follower and a broker.
WISH = 1
WISH_HEARD = 2
NEWS_TOLD = 3
NEWS_READ = 4


class NewsRow:
    """Things that wait to be sent one after another to an address: (number, bytes), and when the first is due."""

    def __init__(self, address):
        self.address = address
        self.things = []
        self.due = 0
        self.last_number = 0

    def add(self, body):
        """Let bytes wait; return their number."""
        self.last_number += 1
        self.things.append((self.last_number, body))
        return self.last_number

    def drop_told(self, number, time):
        """Drop the first thing if it has a number: the next one is due at once."""
        if self.things != [] and self.things[0][0] == number:
            self.things = self.things[1:]
            self.due = time

    def send_due(self, host, kind):
        """Send the first thing from a host, as a message of a kind, if it is due; it is due again 8 ticks later."""
        if self.things == [] or host.clock < self.due:
            return
        number, body = self.things[0]
        host.send(self.address, NEWS, message_bytes(kind, number) + body)
        self.due = host.clock + SEND_EACH


def message_bytes(kind, number):
    """Return the bytes with which a message begins."""
    return natural_bytes(kind) + natural_bytes(number)


def texts_bytes(topic, text):
    """Return the bytes of a topic or a pattern, and a text."""
    return blob_bytes(text_bytes(topic)) + blob_bytes(text_bytes(text))


def check_wish(deed, topic):
    """Raise MessageError for what is no deed, no topic of a deed that publishes, or no pattern of another deed."""
    if deed not in WISHES:
        raise MessageError("no wish")
    if deed in ("publish", "keep"):
        topic_parts(topic)
    else:
        pattern_parts(topic)


def wish_bytes(deed, topic, text):
    """Return the bytes of a wish: "publish", "keep" (publish, and tell it to who follows later), "follow", "leave"."""
    return natural_bytes(WISHES.index(deed)) + texts_bytes(topic, text)


def read_wish(reader):
    """Return (deed, topic or pattern, text) at a reader's place; raise MessageError for others."""
    try:
        deed = reader.natural()
        topic = bytes_text(reader.blob())
        text = bytes_text(reader.blob())
    except OctetError:
        raise MessageError("no wish")
    if not reader.at_end() or deed >= len(WISHES) or len(text) > MOST_NEWS:
        raise MessageError("no wish")
    return (WISHES[deed], topic, text)


def read_news(reader):
    """Return (topic, text) at a reader's place; raise MessageError for others."""
    try:
        topic = bytes_text(reader.blob())
        text = bytes_text(reader.blob())
    except OctetError:
        raise MessageError("no news")
    if not reader.at_end() or len(text) > MOST_NEWS:
        raise MessageError("no news")
    topic_parts(topic)
    return (topic, text)


def read_head(reader):
    """Return (kind, number) of a message at a reader's place; raise MessageError for others."""
    try:
        kind = reader.natural()
        return (kind, reader.natural())
    except OctetError:
        raise MessageError("no message")


class Broker:
    """A host where wishes come in: who follows what, texts that are kept by topic, rows of news, and all wishes so far.

    A wish in the log is (address, number, deed, topic, text).
    """

    def __init__(self, host):
        self.host = host
        # The patterns that each address follows, and the number of its last wish that was carried out.
        self.patterns = {}
        self.last_wishes = {}
        self.kept = {}
        self.rows = {}
        self.log = []
        host.add_service(NEWS, self)

    def take(self, source, data):
        """Take a message into account: the next wish of an address is carried out, others are only told as heard."""
        reader = Reader(data)
        try:
            kind, number = read_head(reader)
            if kind == WISH:
                self.take_wish(source, number, read_wish(reader))
        except MessageError:
            return
        if kind == NEWS_READ and reader.at_end() and source in self.rows:
            self.rows[source].drop_told(number, self.host.clock)

    def take_wish(self, source, number, wish):
        """Carry out a wish if it is the next one of an address, and tell it as heard; raise MessageError for none."""
        if number == self.last_wishes.get(source, 0) + 1:
            self.carry(source, number, wish)
            self.last_wishes[source] = number
        self.host.send(source, NEWS, message_bytes(WISH_HEARD, number))

    def carry(self, source, number, wish):
        """Carry out a wish."""
        deed, topic, text = wish
        check_wish(deed, topic)
        body = texts_bytes(topic, text)
        self.log.append((source, number, deed, topic, text))
        if deed == "follow":
            self.follow(source, pattern_parts(topic))
        elif deed == "leave":
            parts = pattern_parts(topic)
            self.patterns[source] = [pattern for pattern in self.patterns.get(source, []) if pattern != parts]
        else:
            self.publish(topic_parts(topic), body)
            if deed == "keep":
                self.kept[topic] = text

    def follow(self, address, pattern):
        """Let an address follow a pattern; who begins to do so is told what is kept of topics that it fits."""
        followed = self.patterns.setdefault(address, [])
        if pattern in followed:
            return
        followed.append(pattern)
        for topic in sorted(self.kept):
            if fits_topic(pattern, topic_parts(topic)):
                self.tell(address, topic, self.kept[topic])

    def publish(self, topic, body):
        """Let a text on a topic wait for each address of whose patterns one fits, once."""
        for address, followed in self.patterns.items():
            if any([fits_topic(pattern, topic) for pattern in followed]):
                self.row_of(address).add(body)

    def tell(self, address, topic, text):
        """Let a text on a topic wait for an address."""
        body = texts_bytes(topic, text)
        self.row_of(address).add(body)

    def row_of(self, address):
        """Return the row of news that wait for an address."""
        if address not in self.rows:
            self.rows[address] = NewsRow(address)
        return self.rows[address]

    def tick(self):
        """Send what is due."""
        for row in list(self.rows.values()):
            row.send_due(self.host, NEWS_TOLD)

    def is_done(self):
        """Return True if nothing waits."""
        return all([row.things == [] for row in self.rows.values()])


class Follower:
    """A host that publishes and follows by a broker, and (topic, text) read.

    Its wishes wait in a row; the last number of news tells which ones are the next.
    """

    def __init__(self, host, broker):
        self.host = host
        self.wishes = NewsRow(broker)
        self.last = 0
        self.news_read = []
        host.add_service(NEWS, self)

    def wish(self, deed, topic, text=""):
        """Let a wish wait; return its number. Raise MessageError for a bad deed, topic, pattern or text."""
        check_wish(deed, topic)
        if len(text) > MOST_NEWS or any([sign not in LETTERS for sign in text]):
            raise MessageError("no wish")
        return self.wishes.add(wish_bytes(deed, topic, text))

    def take(self, source, data):
        """Take a message into account: the next news are read, all are told as read; heard wishes wait no more."""
        if source != self.wishes.address:
            return
        reader = Reader(data)
        try:
            kind, number = read_head(reader)
            if kind == NEWS_TOLD:
                self.take_news(number, read_news(reader))
        except MessageError:
            return
        if kind == WISH_HEARD and reader.at_end():
            self.wishes.drop_told(number, self.host.clock)

    def take_news(self, number, news):
        """Read news if they are the next ones, and tell them as read."""
        if number == self.last + 1:
            self.last = number
            self.news_read.append(news)
        self.host.send(self.wishes.address, NEWS, message_bytes(NEWS_READ, number))

    def tick(self):
        """Send what is due."""
        self.wishes.send_due(self.host, WISH)

    def is_done(self):
        """Return True if no wish waits."""
        return self.wishes.things == []
