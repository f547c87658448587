"""Agreed time: what others' clocks tell, how sure it is, and what most of them agree on."""

from wirestack.errors import HostError

MOST_SPANS = 30


class Asking:
    """When something was asked by the own clock, what the other clock showed, and when the answer came."""

    def __init__(self, sent, shown, came):
        if came < sent:
            raise HostError("an answer came before the question")
        self.sent = sent
        self.seen_time = shown
        self.came = came

    def span(self):
        """Return (low, high) of what the other clock is ahead by: it showed its time between asking and answer."""
        return (self.seen_time - self.came, self.seen_time - self.sent)

    def best(self):
        """Return the middle of the span, rounded down."""
        low, high = self.span()
        return (low + high) // 2

    def doubt(self):
        """Return how far the truth can be from the middle at most."""
        low, high = self.span()
        # The middle was rounded down, so the high end is the farther one.
        return high - (low + high) // 2


def narrowest(askings):
    """Return the span of askings of one clock that drifts not at all: what all of them allow; HostError for none."""
    spans = [asking.span() for asking in askings]
    if spans == []:
        raise HostError("nothing was asked")
    low = max([span[0] for span in spans])
    high = min([span[1] for span in spans])
    if low > high:
        raise HostError("the clock was set")
    return (low, high)


def agreed(spans):
    """Return (low, high, how many): the span that most spans hold, the first one of equals; HostError for no spans.

    The span is as wide as it can be with so many.
    """
    rows = [(span[0], span[1]) for span in spans]
    if not 0 < len(rows) <= MOST_SPANS or any([low > high for low, high in rows]):
        raise HostError("no spans")
    best = []
    begin = 0
    # What most spans hold begins where one of them begins.
    for point in sorted([low for low, high in rows]):
        holding = [row for row in rows if row[0] <= point <= row[1]]
        if len(holding) > len(best):
            best = holding
            begin = point
    # No other one begins before one of these ends, or more would hold what is there.
    return (begin, min([high for low, high in best]), len(best))


def is_outvoted(span, spans):
    """Return True if a span has nothing of what most spans agree on."""
    low, high, _ = agreed(spans)
    return span[1] < low or span[0] > high


class Clock:
    """A time that follows others: the time shown, and what is still to be made up."""

    def __init__(self, shown=0):
        self.seen_time = shown
        self.owed = 0

    def tick(self):
        """Let time pass: while something is owed, a tick counts double, or, if it is ahead, nothing."""
        if self.owed > 0:
            self.seen_time += 2
            self.owed -= 1
        elif self.owed < 0:
            self.owed += 1
        else:
            self.seen_time += 1

    def follow(self, span):
        """Owe what lacks to the nearest point of a span of how far others are ahead: the clock never goes back."""
        low, high = span[0], span[1]
        self.owed = max(low, min(0, high))
