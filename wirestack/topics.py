"""Topics: names in parts, and patterns that fit them.

Parts stand with "/" between them: "home/garden/rain" fits "home/+/rain" and "home/#".
"""

from wirestack.errors import MessageError

PART_LETTERS = "abcdefghijklmnopqrstuvwxyz0123456789"
MOST_PARTS = 5
MOST_PART = 10
ANY_ONE = "+"
ANY_NUMBER = "#"


def topic_parts(text):
    """Return a topic's parts; raise MessageError for others: 1 to 5 parts of 1 to 10 small letters and digits."""
    parts = text.split("/")
    if len(parts) > MOST_PARTS or any([not is_part(part) for part in parts]):
        raise MessageError("no topic")
    return tuple(parts)


def is_part(text):
    """Return True for a part of a topic."""
    return 0 < len(text) <= MOST_PART and all([sign in PART_LETTERS for sign in text])


def pattern_parts(text):
    """Return a pattern's parts: a topic's, "+" for any one, and at the end "#" for any number; MessageError else."""
    parts = text.split("/")
    if len(parts) > MOST_PARTS:
        raise MessageError("no pattern")
    plain = parts[:-1] if parts[-1] == ANY_NUMBER else parts
    if any([part != ANY_ONE and not is_part(part) for part in plain]):
        raise MessageError("no pattern")
    return tuple(parts)


def fits_topic(pattern, topic):
    """Return True if a pattern fits a topic, both as parts."""
    plain = pattern
    if pattern[-1:] == (ANY_NUMBER,):
        plain = pattern[:-1]
        if len(topic) < len(plain):
            return False
    elif len(topic) != len(pattern):
        return False
    return all([one in (ANY_ONE, part) for one, part in zip(plain, topic)])
