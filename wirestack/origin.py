"""Origin: resources by path, with versions; each request is carried out once, however often it comes."""

from wirestack.errors import MessageError
from wirestack.messages import Answer, number_of

FRESH = 30
MOST_TEXT = 1000
FIRST_BAD_CODE = 300


class Origin:
    """Resources (version, text) and versions (dropped ones too) by path, answers by sender and number, and deeds."""

    def __init__(self, fresh=FRESH):
        self.fresh = fresh
        self.resources = {}
        self.versions = {}
        self.answers = {}
        self.done = []

    def carry(self, sender, request):
        """Return the answer to a sender's request; one that changes something is carried out once."""
        if not request.changes():
            return self.read(request)
        key = (sender, request.number)
        if key not in self.answers:
            answer = self.change(request)
            self.answers[key] = answer.shown()
            if answer.code < FIRST_BAD_CODE:
                self.done.append(key)
        code, number, heads, body = self.answers[key]
        return Answer(code, number, heads, body)

    def read(self, request):
        """Return the answer to a request that reads."""
        if request.path not in self.resources:
            return Answer(404, request.number)
        version, text = self.resources[request.path]
        heads = {"version": str(version), "fresh": str(self.fresh)}
        if request.heads.get("unless") == str(version):
            return Answer(304, request.number, heads)
        return Answer(200, request.number, heads, text if request.method == "GET" else "")

    def change(self, request):
        """Carry out a request that changes something, and return its answer."""
        version = self.version_there(request.path)
        if "only" in request.heads:
            try:
                only = number_of(request.heads["only"])
            except MessageError:
                return Answer(400, request.number)
            if only != version:
                return Answer(412, request.number, {"version": str(version)})
        if request.method == "DELETE":
            return self.drop(request)
        return self.put(request)

    def version_there(self, path):
        """Return the version of what is there, 0 for nothing."""
        return self.resources[path][0] if path in self.resources else 0

    def drop(self, request):
        """Drop what is there."""
        if request.path not in self.resources:
            return Answer(404, request.number)
        self.next_version(request.path)
        del self.resources[request.path]
        return Answer(204, request.number)

    def put(self, request):
        """Set a text, or add to it."""
        path = request.path
        code = 200 if path in self.resources else 201
        text = request.body
        if request.method == "APPEND":
            text = self.resources.get(path, (0, ""))[1] + text
            if len(text) > MOST_TEXT:
                return Answer(409, request.number)
        version = self.next_version(path)
        self.resources[path] = (version, text)
        return Answer(code, request.number, {"version": str(version)})

    def next_version(self, path):
        """Count a path's version up, and return it."""
        self.versions[path] = self.versions.get(path, 0) + 1
        return self.versions[path]
