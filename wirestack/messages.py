"""Messages: requests and answers as texts with heads and bodies, read as their bytes come.

A request is "METHOD path number length", an answer "code number length", each with heads "name: value", a line without
letters, and the body.
"""

from wirestack.errors import MessageError, OctetError
from wirestack.octets import bytes_text, text_bytes

METHODS = ("GET", "PUT", "APPEND", "DELETE", "HEAD")
CODES = (200, 201, 204, 304, 400, 404, 409, 412, 504)
CHANGES = ("PUT", "APPEND", "DELETE")
DIGITS = "0123456789"
SMALL_LETTERS = "abcdefghijklmnopqrstuvwxyz"
PATH_SIGNS = "ABCDEFGHIJKLMNOPQRSTUVWXYZabcdefghijklmnopqrstuvwxyz0123456789/._-"
NAME_SIGNS = "abcdefghijklmnopqrstuvwxyz-"
MOST_PATH = 60
MOST_HEADS = 600
MOST_BODY = 1500
LINE_END = 0


class Request:
    """A method, a path, a number by which it is the same when repeated, heads and a body."""

    def __init__(self, method, path, number, heads=(), body=""):
        self.method = method
        self.path = path
        self.number = number
        self.heads = dict(heads)
        self.body = body

    def shown(self):
        """Return (method, path, number, heads ascending, body)."""
        return (self.method, self.path, self.number, tuple(sorted(self.heads.items())), self.body)

    def changes(self):
        """Return True if the request may change something."""
        return self.method in CHANGES


class Answer:
    """A code, the number of the request, heads and a body."""

    def __init__(self, code, number, heads=(), body=""):
        self.code = code
        self.number = number
        self.heads = dict(heads)
        self.body = body

    def shown(self):
        """Return (code, number, heads ascending, body)."""
        return (self.code, self.number, tuple(sorted(self.heads.items())), self.body)


def check_path(path):
    """Raise MessageError for a path that does not begin with "/", has other signs, or more than 60."""
    if path[:1] != "/" or len(path) > MOST_PATH or any(sign not in PATH_SIGNS for sign in path):
        raise MessageError("no path")


def is_name(name):
    """Return True for a head's name: small letters and "-"."""
    return name != "" and all(sign in NAME_SIGNS for sign in name)


def head_text(heads):
    """Return the lines of heads, in ascending order; raise MessageError for names and values that cannot be told."""
    lines = []
    for name, value in sorted(heads.items()):
        if not is_name(name) or "\n" in value or value != value.strip(" "):
            raise MessageError("no head")
        lines.append(f"{name}: {value}\n")
    return "".join(lines)


def request_bytes(request):
    """Return the bytes of a request; raise MessageError for one that cannot be told."""
    if request.method not in METHODS or not 0 <= request.number < 10 ** 9:
        raise MessageError("no request")
    check_path(request.path)
    return message_bytes(f"{request.method} {request.path} {request.number}", request.heads, request.body)


def answer_bytes(answer):
    """Return the bytes of an answer; raise MessageError for one that cannot be told."""
    if answer.code not in CODES or not 0 <= answer.number < 10 ** 9:
        raise MessageError("no answer")
    return message_bytes(f"{answer.code} {answer.number}", answer.heads, answer.body)


def message_bytes(words, heads, body):
    """Return the bytes of a message by the first words, heads and a body; raise MessageError for what is too long."""
    head = f"{words} {len(body)}\n{head_text(heads)}\n"
    if len(head) > MOST_HEADS or len(body) > MOST_BODY:
        raise MessageError("a message is too long")
    try:
        return text_bytes(head + body)
    except OctetError:
        raise MessageError("a message has a character that cannot be told")


def number_of(text):
    """Return a number of one to nine digits without a needless 0; raise MessageError for another text."""
    if not 0 < len(text) < 10 or any(sign not in DIGITS for sign in text) or (len(text) > 1 and text[0] == "0"):
        raise MessageError("no number")
    return int(text)


def heads_of(lines):
    """Return a table of heads; raise MessageError for other lines, or a name told twice."""
    found = {}
    for line in lines:
        name, sign, value = line.partition(": ")
        if sign == "" or not is_name(name) or name in found:
            raise MessageError("no head")
        if value != value.strip(" "):
            raise MessageError("no head")
        found[name] = value
    return found


def plain_text(data):
    """Return the text of bytes; raise MessageError for bytes that are no character's."""
    try:
        return bytes_text(data)
    except OctetError:
        raise MessageError("a byte is no character's")


def head_in(data):
    """Return the text of the heads that bytes begin with, None if they are not whole; raise MessageError for none."""
    for place in range(1, min(len(data), MOST_HEADS)):
        if data[place] == LINE_END and data[place - 1] == LINE_END:
            return plain_text(data[:place + 1])
    # What can become no heads any more need not be waited for.
    plain_text(data[:MOST_HEADS])
    if len(data) >= MOST_HEADS:
        raise MessageError("heads are too long")
    return None


class MessageReader:
    """Bytes that came, whether requests or answers are read, and what is damaged in them, None for nothing."""

    def __init__(self, requests):
        self.requests = requests
        self.held = ()
        self.fault = None

    def feed(self, data):
        """Return the messages that bytes complete, in order; raise MessageError for bytes that form none.

        Messages before the damage are returned first; then each call raises the error.
        """
        found = []
        if self.fault is None:
            self.held = self.held + data
            self.take_held(found)
        if self.fault is not None and found == []:
            raise MessageError(self.fault)
        return tuple(found)

    def take_held(self, found):
        """Add all whole messages that are held to others, and note what is damaged."""
        try:
            message = self.next_message()
            while message is not None:
                found.append(message)
                message = self.next_message()
        except MessageError as e:
            self.fault = str(e)

    def next_message(self):
        """Move past the message that is held and return it, None if it is not whole; raise MessageError for none."""
        head = head_in(self.held)
        if head is None:
            return None
        lines = head[:-2].split("\n")
        words = lines[0].split(" ")
        heads = heads_of(lines[1:])
        if list(heads) != sorted(heads):
            raise MessageError("heads are not in ascending order")
        message = self.message_of(words, heads)
        length = number_of(words[-1])
        if length > MOST_BODY:
            raise MessageError("a body is too long")
        end = len(head) + length
        message.body = plain_text(self.held[len(head):end])
        if len(self.held) < end:
            return None
        self.held = self.held[end:]
        return message

    def message_of(self, words, heads):
        """Return the message of a first line's words, without a body; raise MessageError for other words."""
        if len(words) != (4 if self.requests else 3):
            raise MessageError("no first line")
        number = number_of(words[-2])
        if not self.requests:
            code = number_of(words[0])
            if code not in CODES:
                raise MessageError("no code")
            return Answer(code, number, heads)
        if words[0] not in METHODS:
            raise MessageError("no method")
        check_path(words[1])
        return Request(words[0], words[1], number, heads)
