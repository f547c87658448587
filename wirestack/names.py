"""Names: a table of names and addresses that a host answers questions about, and askers that keep what they heard.

A question is (1, number, name), an answer (2, number, whether the name is known, address, how long that may be kept).
"""

from wirestack.errors import HostError, OctetError
from wirestack.hosts import NAMES
from wirestack.octets import Reader, blob_bytes, bytes_text, natural_bytes, text_bytes

NAME_LETTERS = "abcdefghijklmnopqrstuvwxyz0123456789-."
MOST_NAME = 40
MOST_KEEP = 1000
QUESTION = 1
ANSWER = 2
KEEP_UNKNOWN = 5
ASK_EACH = 8
MOST_TIMES = 6


def check_name(name):
    """Raise HostError for a name that is empty, has more than 40 characters, or other ones."""
    if not 0 < len(name) <= MOST_NAME or any(sign not in NAME_LETTERS for sign in name):
        raise HostError("no name")


def question_bytes(number, name):
    """Return the bytes of a question."""
    return natural_bytes(QUESTION) + natural_bytes(number) + blob_bytes(text_bytes(name))


def read_question(data):
    """Return (number, name) of a question's bytes; raise OctetError for others."""
    reader = Reader(data)
    kind = reader.natural()
    number = reader.natural()
    name = bytes_text(reader.blob())
    if kind != QUESTION or not reader.at_end():
        raise OctetError("no question")
    return (number, name)


def answer_bytes(number, known, address, keep):
    """Return the bytes of an answer."""
    data = natural_bytes(ANSWER)
    for part in (number, known, address, keep):
        data = data + natural_bytes(part)
    return data


def read_answer(data):
    """Return (number, whether the name is known, address, how long to keep it); raise OctetError for other bytes."""
    reader = Reader(data)
    kind, number, known, address, keep = [reader.natural() for _ in range(5)]
    if kind != ANSWER or known > 1 or not reader.at_end():
        raise OctetError("no answer")
    return (number, known == 1, address, keep)


class NameTable:
    """A host that answers, and names with (address, how long it may be kept)."""

    def __init__(self, host):
        self.host = host
        self.rows = {}
        host.add_service(NAMES, self)

    def set_name(self, name, address, keep):
        """Let a name lead to an address; raise HostError for a wrong name or time."""
        check_name(name)
        if not 0 <= keep < MOST_KEEP:
            raise HostError("a name cannot be kept so long")
        self.rows[name] = (address, keep)

    def drop_name(self, name):
        """Forget a name; raise HostError for an unknown one."""
        if name not in self.rows:
            raise HostError("the name is not known")
        del self.rows[name]

    def take(self, source, data):
        """Answer a question."""
        try:
            number, name = read_question(data)
        except OctetError:
            return
        address, keep = self.rows.get(name, (0, KEEP_UNKNOWN))
        known = 1 if name in self.rows else 0
        self.host.send(source, NAMES, answer_bytes(number, known, address, keep))


class Question:
    """A question that is under way: its number, how often it was asked, and when the last time was."""

    def __init__(self, number, time):
        self.number = number
        self.times = 1
        self.time = time


class NameAsker:
    """A host that asks, whom it asks, what was heard as (address or None, until when), and questions under way."""

    def __init__(self, host, target):
        self.host = host
        self.target = target
        self.kept = {}
        self.asked = {}
        self.last_number = 0
        host.add_service(NAMES, self)

    def address_of(self, name):
        """Return (whether it is known now, address or None); a question is asked if it is not known."""
        check_name(name)
        if name in self.kept:
            address, until = self.kept[name]
            if self.host.clock < until:
                return (True, address)
            del self.kept[name]
        if name not in self.asked:
            self.last_number += 1
            self.asked[name] = Question(self.last_number, self.host.clock)
            self.send(name)
        return (False, None)

    def send(self, name):
        """Send the question about a name."""
        self.host.send(self.target, NAMES, question_bytes(self.asked[name].number, name))

    def take(self, source, data):
        """Take an answer into account; one that was not asked for is left out."""
        try:
            number, known, address, keep = read_answer(data)
        except OctetError:
            return
        names = [name for name, question in self.asked.items() if question.number == number]
        if source == self.target and names != []:
            self.keep(names[0], address if known else None, keep)

    def keep(self, name, address, ticks):
        """Keep what was heard of a name for so many ticks; the question is under way no more."""
        self.kept[name] = (address, self.host.clock + ticks)
        del self.asked[name]

    def forget(self):
        """Forget what was heard."""
        self.kept = {}

    def tick(self):
        """Ask again what was not answered for 8 ticks; after six times the name counts as unknown for a while."""
        for name in list(self.asked):
            question = self.asked[name]
            if self.host.clock - question.time < ASK_EACH:
                continue
            if question.times >= MOST_TIMES:
                self.keep(name, None, KEEP_UNKNOWN)
            else:
                question.times += 1
                question.time = self.host.clock
                self.send(name)
