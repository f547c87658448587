"""Rules: what a guard lets through, as lines of text, and as a filter that means the same.

A line is accept or drop, and conditions: "from a-b", "to a-b", "hops a-b", "size a-b" (or one number alone), and "most
n": so many packets that meet the line's other conditions; it is passed over for later ones. The first line that a
packet meets decides; the last line has no conditions.
"""

from wirestack.errors import FilterError
from wirestack.filters import check_rows, run_filter, run_rows
from wirestack.octets import fixed_number

CONDITIONS = ("from", "to", "hops", "size", "most")
DIGITS = "0123456789"
MOST_DIGITS = 5
MOST_RULES = 8
MOST_ROWS = 64
LEAST_SIZE = 5
# Where a field of a packet's bytes begins, and how many bytes it has.
FIELDS = {"from": (0, 2), "to": (2, 2), "hops": (4, 1)}


class Rule:
    """What it says ("accept" or "drop"), (low, high) by conditions, and the most packets, None for any number."""

    def __init__(self, word, spans, most=None):
        self.word = word
        self.spans = dict(spans)
        self.most = most

    def shown(self):
        """Return (word, spans by their words ascending, most)."""
        return (self.word, tuple(sorted(self.spans.items())), self.most)

    def meets(self, data):
        """Return True if a packet's bytes, at least five, meet the conditions but "most"."""
        return all([low <= field_of(name, data) <= high for name, (low, high) in self.spans.items()])


def field_of(name, data):
    """Return the number of a field of a packet's bytes."""
    if name == "size":
        return len(data)
    place, many = FIELDS[name]
    return fixed_number(data[place:place + many])


def parse_rules(text):
    """Return the rules of a text, lines parted by ";"; raise FilterError "no rule" with the line's number."""
    found = []
    for number, line in enumerate(text.split(";")):
        if number >= MOST_RULES:
            raise FilterError("no rule", number)
        found.append(parse_rule([word for word in line.split(" ") if word != ""], number))
    if found[-1].spans != {} or found[-1].most is not None:
        raise FilterError("no rule", len(found) - 1)
    return tuple(found)


def parse_rule(words, number):
    """Return the rule of a line's words; raise FilterError for others."""
    if len(words) % 2 == 0 or words[0] not in ("accept", "drop"):
        raise FilterError("no rule", number)
    spans = {}
    most = None
    for place in range(1, len(words), 2):
        name = words[place]
        if name not in CONDITIONS or name in spans or (name == "most" and most is not None):
            raise FilterError("no rule", number)
        span = parse_span(words[place + 1], number)
        if name != "most":
            spans[name] = span
        elif span[0] != span[1]:
            raise FilterError("no rule", number)
        else:
            most = span[0]
    return Rule(words[0], spans, most)


def parse_span(word, number):
    """Return (low, high) of "low-high" or of one number; raise FilterError for another word."""
    first, sign, second = word.partition("-")
    low = parse_number(first, number)
    high = low if sign == "" else parse_number(second, number)
    if low > high:
        raise FilterError("no rule", number)
    return (low, high)


def parse_number(word, number):
    """Return the number of one to five digits; raise FilterError for another word."""
    if not 0 < len(word) <= MOST_DIGITS or any(sign not in DIGITS for sign in word):
        raise FilterError("no rule", number)
    return int(word)


def rules_text(rules):
    """Return the text of rules: conditions in the order from, to, hops, size, most."""
    return "; ".join([rule_text(rule) for rule in rules])


def rule_text(rule):
    """Return the line of a rule."""
    words = [rule.word]
    for name in CONDITIONS:
        if name in rule.spans:
            words.extend((name, span_text(rule.spans[name])))
    if rule.most is not None:
        words.extend(("most", str(rule.most)))
    return " ".join(words)


def span_text(span):
    """Return the word of a span, one number alone if it is no more."""
    return str(span[0]) if span[0] == span[1] else f"{span[0]}-{span[1]}"


def decide(rules, data, counts):
    """Return what rules say of a packet's bytes; counts, a list of a number for each rule, may change.

    Packets of fewer than five bytes are dropped.
    """
    if len(data) >= LEAST_SIZE:
        for number, rule in enumerate(rules):
            if rule.meets(data) and is_counted(rule, counts, number):
                return rule.word
    return "drop"


def is_counted(rule, counts, number):
    """Return True if a rule takes one more packet, and count it if the rule takes so many alone."""
    if rule.most is None:
        return True
    if counts[number] >= rule.most:
        return False
    counts[number] += 1
    return True


def compiled(rules):
    """Return a filter that says of each packet what rules say; cell n counts for rule n; FilterError "too long"."""
    rows = []
    for number, rule in enumerate(rules):
        rows.extend(rule_rows(rule, number, 1 + len(rows)))
    found = [("need", LEAST_SIZE, 1 + len(rows))] + rows + [("drop",)]
    if len(found) > MOST_ROWS:
        raise FilterError("too long", MOST_ROWS)
    return tuple(found)


def rule_rows(rule, number, begin):
    """Return the rows of a rule that begin at a place; a packet that does not meet it goes on behind them."""
    rows = []
    for name, span in sorted(rule.spans.items()):
        rows.extend(span_rows(name, span))
    if rule.most is not None:
        rows.extend(most_rows(number, rule.most))
    end = begin + len(rows) + 1
    return [row + (end,) if row[0] == "if" else row for row in rows] + [(rule.word,)]


def span_rows(name, span):
    """Return rows that ask whether a field is outside of a span; the place to go to then is still to be told."""
    low, high = span
    rows = [("size", 0) if name == "size" else ("load", 0) + FIELDS[name], ("set", 1, low)]
    if low == high:
        return rows + [("if", "!=", 0, 1)]
    # The field stays in its register, so it is looked at once for both ends.
    return rows + [("if", "<", 0, 1), ("set", 1, high), ("if", "<", 1, 0)]


def most_rows(cell, most):
    """Return rows that ask whether so many packets were counted in a cell, and count one more if not."""
    asked = [("get", 0, cell), ("set", 1, most), ("if", "<=", 1, 0)]
    return asked + [("set", 1, 1), ("op", "+", 0, 1), ("put", cell, 0)]


class Guard:
    """A filter that is safe, its cells, and how many packets it let through and dropped."""

    def __init__(self, rows):
        self.rows = rows
        self.cells = [0] * 8
        # The rows that were looked at last.
        self.checked = None
        self.accepted = 0
        self.dropped = 0

    def lets(self, data, run):
        """Return True if a packet's bytes go on; run is a function of rows, bytes and cells."""
        word, _ = self.run_checked(data) if run == run_filter else run(self.rows, data, self.cells)
        if word == "accept":
            self.accepted += 1
        else:
            self.dropped += 1
        return word == "accept"

    def run_checked(self, data):
        """Return what run_filter returns; rows that are known to be a filter are not looked at for each packet."""
        if self.rows != self.checked:
            check_rows(self.rows)
            self.checked = self.rows
        return run_rows(self.rows, data, self.cells)
