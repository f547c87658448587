"""Errors: every failure is a NetError, which is a ValueError."""


class NetError(ValueError):
    """The base of all errors of this package."""


class OctetError(NetError):
    """Bytes or values that cannot be turned into each other."""


class PacketError(NetError):
    """Bytes form no packet, or a packet is too large."""


class RouteError(NetError):
    """An address, a router or a way is invalid."""


class SocketError(NetError):
    """A stream cannot be used so."""


class SealError(NetError):
    """A sealed stream is damaged, or was ended in the middle."""


class MessageError(NetError):
    """Bytes form no request or answer."""


class HostError(NetError):
    """A host, a name or a deed is invalid."""


class FilterError(NetError):
    """A filter is unsafe, its text or bytes are invalid, or it goes astray; with the number of a row."""

    def __init__(self, word, row=0):
        super().__init__(f"{word} (row {row})")
        self.word = word
        self.row = row


class StoreError(NetError):
    """A store of copies, a clock of counts or a wish is invalid."""
