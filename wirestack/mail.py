"""Mail: texts that go from relay to relay, are kept until the next one has them, and come once, or go back once."""

from wirestack.errors import MessageError, OctetError
from wirestack.hosts import MAIL
from wirestack.octets import LETTERS, Reader, blob_bytes, bytes_text, natural_bytes, text_bytes

NAME_LETTERS = "abcdefghijklmnopqrstuvwxyz0123456789"
MOST_NAME = 20
MOST_TEXT = 200
MOST_RELAYS = 6
WORDS = ("", "nobody", "too far", "nowhere")
FIRST_WAIT = 8
MOST_WAIT = 64
OTHERS = "*"
# The kinds of messages between relays.
COMES = 1
TAKEN = 2


class Mail:
    """Where it began (an address), its number there, who sent it, to whom, a text, how many relays it passed, a word.

    The word is "" on the way there, else why it goes back: "nobody", "too far" or "nowhere".
    """

    def __init__(self, origin, number, sender, target, text, passed=0, word=""):
        self.origin = origin
        self.number = number
        self.sender = sender
        self.target = target
        self.text = text
        self.passed = passed
        self.word = word

    def shown(self):
        """Return (origin, number, sender, target, text, relays passed, word)."""
        return (self.origin, self.number, self.sender, self.target, self.text, self.passed, self.word)

    def further(self):
        """Return the mail with one more relay passed."""
        return Mail(self.origin, self.number, self.sender, self.target, self.text, self.passed + 1, self.word)

    def going_back(self, word):
        """Return the mail that tells its sender why this one did not come: it begins anew."""
        return Mail(self.origin, self.number, self.sender, self.target, self.text, 0, word)


def check_person(name):
    """Return (person, place) of a name "person@place"; raise MessageError for another name."""
    person, _, place = name.partition("@")
    for part in (person, place):
        if not 0 < len(part) <= MOST_NAME or any([sign not in NAME_LETTERS for sign in part]):
            raise MessageError("no name")
    return (person, place)


def mail_bytes(mail):
    """Return a mail's bytes."""
    data = natural_bytes(mail.origin) + natural_bytes(mail.number)
    for text in (mail.sender, mail.target, mail.text):
        data = data + blob_bytes(text_bytes(text))
    return data + natural_bytes(mail.passed) + natural_bytes(WORDS.index(mail.word))


def read_mail(data):
    """Return the mail of bytes; raise MessageError for others."""
    reader = Reader(data)
    try:
        origin = reader.natural()
        number = reader.natural()
        sender, target, text = [bytes_text(reader.blob()) for _ in range(3)]
        passed = reader.natural()
        word = reader.natural()
    except OctetError:
        raise MessageError("no mail")
    if not reader.at_end() or word >= len(WORDS) or len(text) > MOST_TEXT:
        raise MessageError("no mail")
    return Mail(origin, number, sender, target, text, passed, WORDS[word])


class Waiting:
    """A mail that waits until the next relay, at an address, has it: when it is due, and how long the next wait is."""

    def __init__(self, mail, address, due):
        self.mail = mail
        self.address = address
        self.due = due
        self.wait = FIRST_WAIT

    def bytes_sent(self):
        """Return the bytes of the mail as the next relay is to get it."""
        return mail_bytes(self.mail)

    def put_off(self, time):
        """Note that the mail was sent at a time: it is due again after a wait, which is longer each time."""
        self.due = time + self.wait
        self.wait = min(2 * self.wait, MOST_WAIT)


class Relay:
    """A host's relay: its place's name, people, ways to other places, mails that wait, boxes, and what came before.

    Ways lead from places' names to addresses of relays; "*" is for all others.
    """

    def __init__(self, host, place, people, ways):
        self.host = host
        self.place = place
        self.ways = dict(ways)
        self.boxes = {person: [] for person in people}
        self.waiting = []
        self.seen = {}
        self.last_number = 0
        host.add_service(MAIL, self)

    def post(self, sender, target, text):
        """Send a text from a person of this place; return the mail's number. Raise MessageError for what cannot be."""
        person, place = check_person(sender)
        if place != self.place or person not in self.boxes:
            raise MessageError("nobody of that name")
        check_person(target)
        if len(text) > MOST_TEXT or any([sign not in LETTERS for sign in text]):
            raise MessageError("no text")
        self.last_number += 1
        self.handle(Mail(self.host.address, self.last_number, sender, target, text))
        return self.last_number

    def handle(self, mail):
        """Keep a mail in a box, let it wait for the next relay, or send it back; drop it if it was going back."""
        name = mail.target if mail.word == "" else mail.sender
        person, _, place = name.partition("@")
        address = self.ways.get(place, self.ways.get(OTHERS))
        if place == self.place and person in self.boxes:
            self.boxes[person].append(mail)
        elif place == self.place:
            self.send_back(mail, "nobody")
        elif mail.passed >= MOST_RELAYS:
            self.send_back(mail, "too far")
        elif address is None:
            self.send_back(mail, "nowhere")
        else:
            self.waiting.append(Waiting(mail.further(), address, self.host.clock))

    def send_back(self, mail, word):
        """Send a mail back to its sender with a word; drop it if it was going back."""
        if mail.word == "":
            self.handle(mail.going_back(word))

    def tick(self):
        """Send what waits and is due: after 8, 16, 32 and then each 64 ticks again."""
        for row in list(self.waiting):
            if self.host.clock >= row.due:
                self.host.send(row.address, MAIL, (COMES,) + row.bytes_sent())
                row.put_off(self.host.clock)

    def take(self, source, data):
        """Take a message into account.

        A mail that came is kept once and told as taken, each time; other messages end waiting.
        """
        kind, told = data[:1], data[1:]
        if kind == (TAKEN,):
            self.waiting = [row for row in self.waiting if row.address != source or row.bytes_sent() != told]
            return
        try:
            mail = read_mail(told)
        except MessageError:
            return
        if kind == (COMES,):
            self.host.send(source, MAIL, (TAKEN,) + told)
            self.take_mail(mail)

    def take_mail(self, mail):
        """Keep a mail that came unless it came before."""
        # A mail that goes in a ring passes a relay again, with more relays passed.
        key = (mail.origin, mail.number, mail.passed, mail.word)
        if key not in self.seen:
            self.seen[key] = True
            self.handle(mail)

    def is_done(self):
        """Return True if no mail waits here."""
        return self.waiting == []
