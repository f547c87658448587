"""Running: what runs on hosts: an origin, a cache in front of it, and clients that ask until they are answered."""

from wirestack.cache import Cache
from wirestack.messages import Answer, Request, answer_bytes, request_bytes
from wirestack.sessions import Session

MOST_TIMES = 4
MOST_WAIT = 60
MOST_IDLE = 200
NO_ANSWER = 504


class Secrets:
    """A row of secrets that are drawn one after another."""

    def __init__(self, seed):
        self.seed = seed

    def draw(self):
        """Return the next secret."""
        self.seed = (1103515245 * self.seed + 12345) % 2147483648
        return 2 + self.seed % 2147483000


def is_usable(session):
    """Return True if a session can carry further requests."""
    return session.fault is None and session.seal.state != "over"


def go_on_ending(session):
    """Let a session that was ended, or has failed, go on; return True while its stream is there."""
    session.tick()
    # A session that has failed reads nothing any more, but its stream ends only when all was read.
    session.stream.read()
    return session.stream.state not in ("failed", "closed")


class Served:
    """A session that was opened to a host, and how many of its requests are not answered yet."""

    def __init__(self, session):
        self.session = session
        self.open_requests = 0

    def requests(self):
        """Return the requests that came, in order."""
        found = self.session.tick()
        self.open_requests += len(found)
        return found

    def answer(self, answer):
        """Answer the first request that is not answered yet."""
        self.open_requests -= 1
        self.session.send(answer_bytes(answer))

    def goes_on(self):
        """End this side if the other one has ended and all is answered; return True while the stream is there."""
        if self.session.fault is not None:
            return go_on_ending(self.session)
        if self.session.seal.state == "over" and self.open_requests == 0:
            self.session.end()
        return self.session.stream.state not in ("failed", "closed")


class Listener:
    """A host and the sessions that were opened to it, in order, with secrets drawn from a row."""

    def __init__(self, host, secrets):
        self.host = host
        self.secrets = secrets
        self.served = []
        host.endpoint.listen()

    def requests(self):
        """Return (session served, request) of the requests that came, in order."""
        stream = self.host.endpoint.accept()
        while stream is not None:
            self.served.append(Served(Session(self.host.endpoint, stream, self.secrets.draw(), False)))
            stream = self.host.endpoint.accept()
        found = []
        for served in self.served:
            for request in served.requests():
                found.append((served, request))
        return found

    def let_end(self):
        """Let sessions end that the other side has ended, and forget those that are over."""
        self.served = [served for served in self.served if served.goes_on()]


class OriginRun:
    """An origin that answers the requests that come."""

    def __init__(self, host, origin, seed):
        self.origin = origin
        self.listener = Listener(host, Secrets(seed))

    def tick(self):
        """Answer the requests that came."""
        for served, request in self.listener.requests():
            served.answer(self.origin.carry(request.heads.get("from", ""), request))
        self.listener.let_end()


class Asker:
    """A host, whom it asks, the session it has, the request under way, and how long it has waited."""

    def __init__(self, host, target, seed):
        self.host = host
        self.target = target
        self.secrets = Secrets(seed)
        self.session = None
        # The address that the session leads to, as the target may be a name.
        self.address = target
        self.ending = []
        self.request = None
        self.times = 0
        self.waited = 0
        self.idle = 0

    def ask(self, request):
        """Begin to ask a request."""
        data = request_bytes(request)
        self.request = request
        self.times = 0
        if self.session is not None and (not is_usable(self.session) or self.session.stream.peer != self.address):
            self.leave_session()
        self.send(data)

    def send(self, data):
        """Send the bytes of a request, on a new session if there is none."""
        self.times += 1
        self.waited = 0
        if self.session is None:
            stream = self.host.endpoint.connect(self.address)
            self.session = Session(self.host.endpoint, stream, self.secrets.draw(), True)
        self.session.send(data)

    def leave_session(self):
        """End the session; it goes on until the other side has ended, too."""
        self.session.end()
        # The other side may never open the seal; then the stream ends all the same, and what waits is not sent.
        self.session.stream.close()
        self.ending.append(self.session)
        self.session = None

    def tick(self):
        """Return the answer to the request, or one that says that there is none, or None while it is waited for."""
        if self.ending != []:
            self.ending = [session for session in self.ending if go_on_ending(session)]
        if self.session is None:
            return None
        answers = self.session.tick()
        if self.request is None:
            self.rest()
            return None
        for answer in answers:
            if answer.number == self.request.number:
                return self.answered(answer)
        self.waited += 1
        if is_usable(self.session) and self.waited <= MOST_WAIT:
            return None
        return self.ask_again()

    def answered(self, answer):
        """Return an answer; the request is under way no more."""
        self.request = None
        self.idle = 0
        return answer

    def ask_again(self):
        """Ask the request on a new session; return an answer that says that there is none if it was asked enough."""
        self.leave_session()
        if self.times >= MOST_TIMES:
            return self.answered(Answer(NO_ANSWER, self.request.number))
        self.send(request_bytes(self.request))
        return None

    def rest(self):
        """End a session that cannot be used any more, or that was not used for long."""
        self.idle += 1
        if self.idle > MOST_IDLE or not is_usable(self.session):
            self.leave_session()


class ClientRun(Asker):
    """A client: requests still to be asked, and (request, time asked, answer, time answered) of those that were.

    Its target is an address, or a name that an asker of names looks up for each request.
    """

    def __init__(self, host, target, seed, requests, names=None):
        super().__init__(host, target, seed)
        self.name = host.name
        self.names = names
        self.left = list(requests)
        self.events = []
        # The request that is under way as it was told, when it was begun, and for how long its target is looked up.
        self.begun = None
        self.time = 0
        self.looked = 0

    def tick(self):
        """Go on asking."""
        if self.names is not None:
            self.names.tick()
        answer = super().tick()
        if answer is not None:
            self.note(answer)
        if self.begun is None and self.left != []:
            self.begun = self.left.pop(0)
            self.time = self.host.clock
            self.looked = 0
        if self.begun is not None and self.request is None:
            self.look_up()

    def look_up(self):
        """Ask the request that was begun as soon as the address of the target is known."""
        known, address = (True, self.target)
        if isinstance(self.target, str):
            known, address = self.names.address_of(self.target)
        self.looked += 1
        if address is not None:
            self.address = address
            self.ask(self.signed(self.begun))
        elif known or self.looked > MOST_TIMES * MOST_WAIT:
            self.note(Answer(NO_ANSWER, self.begun.number))

    def signed(self, request):
        """Return a request with the head that tells who asks."""
        heads = {"from": self.name}
        heads.update(request.heads)
        return Request(request.method, request.path, request.number, heads, request.body)

    def note(self, answer):
        """Note the answer of the request that was begun."""
        self.events.append((self.begun, self.time, answer, self.host.clock))
        self.begun = None

    def is_done(self):
        """Return True if all requests were asked and answered."""
        return self.left == [] and self.begun is None


class CacheRun:
    """A cache that answers requests by what it keeps, and asks the origin one at a time for all others."""

    def __init__(self, host, target, seed, most=20):
        self.host = host
        self.cache = Cache(most)
        self.asker = Asker(host, target, seed)
        self.listener = Listener(host, self.asker.secrets)
        # (session served, request) of requests that wait, in order, and of the one that the origin is asked.
        self.waiting = []
        self.asking = None
        self.asked = None
        self.time = 0

    def tick(self):
        """Answer what can be answered, and ask the origin for the next of the others."""
        answer = self.asker.tick()
        if answer is not None:
            self.take(answer)
        self.waiting.extend(self.listener.requests())
        self.go_on()
        self.listener.let_end()

    def take(self, answer):
        """Answer the request for which the origin was asked."""
        served, request = self.asking
        self.asking = None
        served.answer(self.cache.take(request, self.asked, answer, self.time))

    def go_on(self):
        """Answer what waits, as far as nothing of the same session waits ahead of it; ask the origin for the next."""
        blocked = [] if self.asking is None else [self.asking[0]]
        left = []
        for served, request in self.waiting:
            if served.session.fault is not None:
                # Nobody waits for the answer any more.
                continue
            answer = None if served in blocked else self.cache.answer(request, self.host.clock)
            if answer is not None:
                served.answer(answer)
                continue
            if self.asking is None:
                self.ask(served, request)
            else:
                left.append((served, request))
            blocked.append(served)
        self.waiting = left

    def ask(self, served, request):
        """Ask the origin for a request."""
        self.asking = (served, request)
        self.asked = self.cache.ask(request)
        self.time = self.host.clock
        self.asker.ask(self.asked)
