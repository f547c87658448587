"""Sessions: sealed streams that carry requests or answers."""

from wirestack.errors import MessageError, SealError, SocketError
from wirestack.messages import MessageReader
from wirestack.seals import MOST_RECORD, Seal


class Session:
    """A stream, its seal, a reader of messages, and why it ended, None while it goes on."""

    def __init__(self, endpoint, stream, secret, opens):
        self.endpoint = endpoint
        self.stream = stream
        self.seal = Seal(secret, opens)
        # The side that opens asks, so it reads answers.
        self.reader = MessageReader(not opens)
        self.waiting = []
        self.ending = False
        self.fault = None
        if opens:
            self.put(self.seal.hello())

    def is_sealed(self):
        """Return True if messages can be sent: the other side's hello came, and nothing is damaged."""
        return self.seal.state in ("open", "over")

    def put(self, data):
        """Send bytes on the stream."""
        # The next tick tells why a stream has failed, behind all that came before.
        if self.stream.state == "failed":
            return
        try:
            self.stream.send(data)
        except SocketError as e:
            self.break_off(str(e))

    def send(self, data):
        """Send a message's bytes, as soon as the seal is open, in records of at most 300 bytes."""
        if self.ending:
            raise SealError("this side has ended")
        if self.is_sealed():
            self.send_records(data)
        else:
            self.waiting.append(data)

    def send_records(self, data):
        """Send a message's bytes in records."""
        for begin in range(0, len(data), MOST_RECORD):
            self.put(self.seal.send(data[begin:begin + MOST_RECORD]))

    def end(self):
        """End this side behind all that waits."""
        if self.ending:
            return
        self.ending = True
        if self.is_sealed():
            self.send_end()

    def send_end(self):
        """Tell the other side that this one has ended."""
        self.put(self.seal.end())
        self.stream.close()

    def tick(self):
        """Take what came into account; return the messages that are complete, in order."""
        if self.fault is not None:
            return ()
        data = self.stream.read()
        # Where nothing came, nothing can have changed.
        found = self.take(data) if data != () or self.is_damaged() else ()
        # Only a stream that has failed, or of which an end was heard, can tell something more.
        if self.fault is None and (self.stream.state == "failed" or self.stream.end_place is not None):
            self.look_at_stream()
        return found

    def is_damaged(self):
        """Return True if what came is known to be damaged."""
        return self.seal.state == "broken" or self.reader.fault is not None

    def look_at_stream(self):
        """Note that the stream has failed, or was cut off before the other side ended its messages."""
        if self.stream.state == "failed":
            self.fault = self.stream.fault
        elif self.stream.is_over():
            try:
                self.seal.check_over()
            except SealError as e:
                self.break_off(str(e))

    def take(self, data):
        """Feed bytes to the seal and the reader; answer a hello with the own one, and send what waits."""
        was_opening = self.seal.state == "opening"
        try:
            pieces = self.seal.feed(data)
        except SealError:
            pieces = ()
        if was_opening and self.is_sealed():
            self.begin()
        found = self.read_pieces(pieces)
        if self.seal.state == "broken":
            self.break_off("a sealed stream is damaged")
        return found

    def begin(self):
        """Answer a hello with the own one, and send what waits."""
        if not self.seal.opens:
            self.put(self.seal.hello())
        for data in self.waiting:
            self.send_records(data)
        self.waiting = []
        if self.ending:
            self.send_end()

    def read_pieces(self, pieces):
        """Return the messages that sealed pieces complete, in order."""
        data = ()
        for piece in pieces:
            data = data + piece
        try:
            found = self.reader.feed(data)
        except MessageError:
            found = ()
        if self.reader.fault is not None:
            self.break_off(self.reader.fault)
        return found

    def break_off(self, fault):
        """Note why the session ended, and let the other side see that its stream was cut off."""
        if self.fault is None:
            self.fault = fault
        self.stream.close()
