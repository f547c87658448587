"""Counts: what a copy has seen, as a table of hosts' addresses to how many of their changes it knows."""

from wirestack.errors import OctetError, StoreError
from wirestack.octets import Reader, blob_bytes, bytes_text, natural_bytes, text_bytes

MOST_SIBLINGS = 30


def counts_of(rows):
    """Return counts: (address, number) rows, ascending, numbers above 0; raise StoreError for a name told twice."""
    found = {}
    for address, number in rows:
        if address in found or number < 1 or address < 1:
            raise StoreError("no counts")
        found[address] = number
    return tuple(sorted(found.items()))


def joined_counts(one, other):
    """Return counts that know all that two others know."""
    found = dict(one)
    for address, number in other:
        found[address] = max(number, found.get(address, 0))
    return tuple(sorted(found.items()))


def knows(one, other):
    """Return True if counts know all that others know."""
    return is_known(dict(one), other)


def is_known(table, counts):
    """Return True if a table of counts knows all that counts know."""
    for address, number in counts:
        if table.get(address, 0) < number:
            return False
    return True


def relation(one, other):
    """Return "same", "newer" (one knows all of the other and more), "older", or "apart"."""
    if knows(one, other):
        return "same" if knows(other, one) else "newer"
    return "older" if knows(other, one) else "apart"


def text_order(text):
    """Return what texts are compared by, None being the least."""
    return (0, "") if text is None else (1, text)


def merged(rows):
    """Return siblings, (counts, text or None) rows, without those that another one knows, ascending by counts.

    Of rows of the same counts the one of the least text stays, None being the least.
    """
    texts = {}
    for counts, text in rows:
        if counts not in texts or text_order(text) < text_order(texts[counts]):
            texts[counts] = text
    if len(texts) == 1:
        return tuple(texts.items())
    tables = {counts: dict(counts) for counts in texts}
    found = []
    for counts in sorted(texts):
        above = [other for other in texts if other != counts and is_known(tables[other], counts)]
        # Counts that know each other are the same, told in two ways.
        if not any([not is_known(tables[counts], other) for other in above]):
            found.append((counts, texts[counts]))
    return tuple(found)


def seen_by(siblings):
    """Return counts that know all siblings."""
    found = ()
    for counts, _ in siblings:
        found = joined_counts(found, counts)
    return found


def siblings_bytes(siblings):
    """Return siblings as bytes."""
    data = natural_bytes(len(siblings))
    for counts, text in siblings:
        data = data + natural_bytes(len(counts))
        for address, number in counts:
            data = data + natural_bytes(address) + natural_bytes(number)
        data = data + natural_bytes(0 if text is None else 1) + blob_bytes(text_bytes("" if text is None else text))
    return data


def read_siblings(reader):
    """Return the siblings at a reader's place; raise StoreError for bytes that are none."""
    try:
        many = reader.natural()
        if many > MOST_SIBLINGS:
            raise StoreError("too many siblings")
        found = [read_sibling(reader) for _ in range(many)]
    except OctetError:
        raise StoreError("no siblings")
    if merged(found) != tuple(found):
        raise StoreError("no siblings")
    return tuple(found)


def read_sibling(reader):
    """Return the sibling at a reader's place; raise StoreError or OctetError for bytes that are none."""
    rows = [(reader.natural(), reader.natural()) for _ in range(reader.natural())]
    counts = counts_of(rows)
    there = reader.natural()
    text = bytes_text(reader.blob())
    if list(counts) != rows or there > 1 or (there == 0 and text != ""):
        raise StoreError("no siblings")
    return (counts, text if there == 1 else None)


def whole_siblings(data):
    """Return the siblings of bytes; raise StoreError for others, or bytes behind them."""
    reader = Reader(data)
    found = read_siblings(reader)
    if not reader.at_end():
        raise StoreError("no siblings")
    return found
