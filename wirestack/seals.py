"""Seals: streams of records that nobody on the way can read, change, repeat, reorder or cut off unseen.

Numbers are reckoned by a prime. Each side draws a secret and sends 7 raised to it; both know the other's raised to
their own. A record's bytes are masked by a row of numbers, and its tag weighs them by powers of a key.
"""

from wirestack.errors import OctetError, SealError
from wirestack.octets import Reader, blob_bytes, fixed_bytes, fixed_number

PRIME = 2147483647
ROOT = 7
STEP = 48271
MOST_RECORD = 300
TAG_SIZE = 4
HELLO_SIZE = 5
MESSAGE = 1
END = 2
HELLO = 3
TO_OTHER = 1
TO_OPENER = 2


def raised(base, power):
    """Return a number raised to a power, by the prime."""
    found = 1
    square = base % PRIME
    rest = power
    while rest > 0:
        if rest % 2 == 1:
            found = found * square % PRIME
        square = square * square % PRIME
        rest = rest // 2
    return found


def mixed(numbers):
    """Return a number from 1 to the prime less one that hangs on all numbers."""
    found = 17
    for number in numbers:
        found = (STEP * found + number + 1) % PRIME
        found = found * found % PRIME + 3
    return found % (PRIME - 1) + 1


def mask(key, serial, many):
    """Return so many bytes that hang on a key and a record's number."""
    number = mixed((key, serial))
    found = []
    for _ in range(many):
        number = STEP * number % PRIME
        found.append(number >> 16 & 255)
    return tuple(found)


def tag_of(key, serial, data):
    """Return the tag of bytes: their sum weighed by powers of a key from the second on, the number's by the first."""
    total = 0
    # From the last byte on, each step raises the power of all that came before it.
    for byte in data[::-1]:
        total = (total + byte + 1) * key % PRIME
    return fixed_bytes((total + serial + 1) * key % PRIME, TAG_SIZE)


def xored(data, other):
    """Return bytes, each with the bits flipped that another row of bytes tells."""
    return tuple([one ^ two for one, two in zip(data, other)])


def blob_length(data):
    """Return the number of bytes of the blob that begins here, None if more bytes are needed to tell, -1 for none."""
    # No record is so long that its number of bytes takes more than two.
    if data == () or (len(data) == 1 and data[0] >= 128):
        return None
    try:
        return Reader(data[:2]).natural()
    except OctetError:
        return -1


class Keys:
    """A key that masks and a key that tags, of one direction."""

    def __init__(self, shared, label):
        self.masking = mixed((shared, label))
        self.tagging = mixed((shared, label, 99))

    def sealed(self, serial, plain):
        """Return the record of plain bytes: the masked bytes and their tag."""
        masked = xored(plain, mask(self.masking, serial, len(plain)))
        return masked + tag_of(self.tagging, serial, masked)

    def unsealed(self, serial, record):
        """Return the plain bytes of a record; raise SealError if its tag is another one."""
        masked = record[:-TAG_SIZE]
        if tag_of(self.tagging, serial, masked) != record[-TAG_SIZE:]:
            raise SealError("a record is damaged")
        return xored(masked, mask(self.masking, serial, len(masked)))


class Seal:
    """One side of a sealed stream: its secret, keys of both directions, numbers of records, and bytes that came.

    The side that opens the stream sends its hello first; each side begins with its hello. States: "opening" until the
    other side's hello came, "open", "over" when the other side has ended, "broken".
    """

    def __init__(self, secret, opens):
        if not 1 <= secret < PRIME - 1:
            raise SealError("a secret is out of bounds")
        self.secret = secret
        self.opens = opens
        self.state = "opening"
        self.ended = False
        self.held = ()
        self.sending = None
        self.hearing = None
        self.serial_sent = 0
        self.serial_heard = 0

    def hello(self):
        """Return the bytes with which this side begins."""
        return blob_bytes((HELLO,) + fixed_bytes(raised(ROOT, self.secret), 4))

    def send(self, data):
        """Return the bytes that carry a message; raise SealError for one that is too long, or when that cannot be."""
        if self.state not in ("open", "over") or self.ended:
            raise SealError("this side sends nothing now")
        if len(data) > MOST_RECORD:
            raise SealError("a message is too long")
        return self.record_bytes((MESSAGE,) + data)

    def end(self):
        """Return the bytes that end this side's messages."""
        if self.state not in ("open", "over") or self.ended:
            raise SealError("this side sends nothing now")
        self.ended = True
        return self.record_bytes((END,))

    def record_bytes(self, plain):
        """Return the bytes of the next record that this side sends."""
        record = self.sending.sealed(self.serial_sent, plain)
        self.serial_sent += 1
        return blob_bytes(record)

    def feed(self, data):
        """Return the messages that bytes complete; raise SealError for a damaged record, then and ever after.

        Messages before a damaged record are returned, and the error is raised by the next call.
        """
        found = []
        if self.state != "broken":
            self.held = self.held + data
            self.take_held(found)
        if self.state == "broken" and found == []:
            raise SealError("a sealed stream is damaged")
        return tuple(found)

    def take_held(self, found):
        """Take all whole records that are held into account, and add their messages to others."""
        try:
            record = self.next_record()
            while record is not None:
                if self.state == "opening":
                    self.take_hello(record)
                else:
                    self.take_record(record, found)
                record = self.next_record()
        except SealError:
            self.state = "broken"
            self.held = ()

    def next_record(self):
        """Move past the record that is held and return it, None if it is not whole; raise SealError for none."""
        if self.held == ():
            return None
        # What comes behind the end was not sent by the other side.
        if self.state == "over":
            raise SealError("a record stands behind the end")
        length = blob_length(self.held)
        if length is None:
            return None
        least = HELLO_SIZE if self.state == "opening" else 1 + TAG_SIZE
        most = HELLO_SIZE if self.state == "opening" else 1 + MOST_RECORD + TAG_SIZE
        if not least <= length <= most:
            raise SealError("a record has a wrong length")
        end = length + (1 if length < 128 else 2)
        if len(self.held) < end:
            return None
        record = self.held[end - length:end]
        self.held = self.held[end:]
        return record

    def take_hello(self, record):
        """Reckon the keys of both directions from the other side's hello; raise SealError for another record."""
        other = fixed_number(record[1:])
        # 7 raised to a secret is never 0, nor 1, nor the prime or more.
        if record[0] != HELLO or not 1 < other < PRIME:
            raise SealError("no hello")
        own = raised(ROOT, self.secret)
        common = raised(other, self.secret)
        root = mixed((common, own, other)) if self.opens else mixed((common, other, own))
        self.sending = Keys(root, TO_OTHER if self.opens else TO_OPENER)
        self.hearing = Keys(root, TO_OPENER if self.opens else TO_OTHER)
        self.state = "open"

    def take_record(self, record, found):
        """Take a record into account, and add its message to others; raise SealError for a damaged one."""
        plain = self.hearing.unsealed(self.serial_heard, record)
        self.serial_heard += 1
        if plain[0] == MESSAGE:
            found.append(plain[1:])
        elif plain == (END,):
            self.state = "over"
        else:
            raise SealError("a record of no kind")

    def check_over(self):
        """Raise SealError unless the other side has ended its messages."""
        if self.state != "over":
            raise SealError("the other side has not ended its messages")
