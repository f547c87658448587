"""Cache: answers kept for a while, asked for again when they are stale, and dropped when they change."""

from wirestack.errors import MessageError
from wirestack.messages import Answer, Request, number_of

MOST_ENTRIES = 20


class Entry:
    """A version, a text, when it was asked for, and how long it stays fresh."""

    def __init__(self, version, text, time, fresh):
        self.version = version
        self.text = text
        self.time = time
        self.fresh = fresh

    def is_fresh(self, time):
        """Return True if the entry need not be asked for again."""
        return time - self.time < self.fresh


class Cache:
    """Entries by path, in the order of their last use, and how many requests were answered by them."""

    def __init__(self, most=MOST_ENTRIES):
        self.most = most
        self.entries = {}
        self.hits = 0
        self.asked_again = 0

    def answer(self, request, time):
        """Return the answer to a request by a fresh entry, None if the origin has to be asked."""
        if request.changes() or "now" in request.heads or "unless" in request.heads:
            return None
        entry = self.entries.get(request.path)
        if entry is None or not entry.is_fresh(time):
            return None
        self.keep(request.path, entry)
        self.hits += 1
        heads = {"version": entry.version, "age": str(time - entry.time)}
        return Answer(200, request.number, heads, entry.text if request.method == "GET" else "")

    def ask(self, request):
        """Return the request that the origin is asked: with the version that is kept, if it may still be right."""
        if request.method != "GET" or "unless" in request.heads or request.path not in self.entries:
            return request
        heads = dict(request.heads)
        heads["unless"] = self.entries[request.path].version
        return Request(request.method, request.path, request.number, heads, request.body)

    def take(self, request, asked, answer, time):
        """Keep what the origin answered to what was asked at a time; return the answer for the one who asked."""
        path = request.path
        if request.changes() or answer.code == 404:
            self.entries.pop(path, None)
        elif request.method == "GET" and answer.code == 200:
            self.keep(path, Entry(answer.heads.get("version", ""), answer.body, time, fresh_of(answer, 0)))
        elif answer.code == 304 and self.is_kept(request, asked):
            return self.made_fresh(request, answer, time)
        return answer

    def is_kept(self, request, asked):
        """Return True if the origin was asked with the version that is kept, and not by the one who asked."""
        if "unless" in request.heads or request.path not in self.entries:
            return False
        return asked.heads.get("unless") == self.entries[request.path].version

    def made_fresh(self, request, answer, time):
        """Make an entry fresh again, and return the answer by it."""
        old = self.entries[request.path]
        entry = Entry(old.version, old.text, time, fresh_of(answer, old.fresh))
        self.keep(request.path, entry)
        self.asked_again += 1
        heads = dict(answer.heads)
        heads["version"] = entry.version
        return Answer(200, request.number, heads, entry.text)

    def keep(self, path, entry):
        """Keep an entry as the one used last; the one used least lately goes if there are too many."""
        self.entries.pop(path, None)
        self.entries[path] = entry
        if len(self.entries) > self.most:
            del self.entries[list(self.entries)[0]]


def fresh_of(answer, otherwise):
    """Return how long an answer is fresh by its head, another number if it does not tell."""
    if "fresh" not in answer.heads:
        return otherwise
    try:
        return number_of(answer.heads["fresh"])
    except MessageError:
        return 0
