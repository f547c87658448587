"""Console: lines that build a network, let it go on and tell about it."""

from wirestack.copies import CopyStore, ring_of
from wirestack.counts import seen_by
from wirestack.errors import HostError, MessageError, NetError
from wirestack.messages import Request, request_bytes
from wirestack.names import NameAsker, NameTable
from wirestack.network import Network
from wirestack.origin import Origin
from wirestack.rules import Guard, compiled, parse_rules
from wirestack.running import CacheRun, ClientRun, OriginRun

DIGITS = "0123456789"
MOST_DIGITS = 4
# How many words a line has at least and at most behind its first one; a text at the end has any number of words.
MANY_WORDS = {"host": (1, 1), "link": (3, 3), "down": (2, 2), "up": (2, 2), "go": (1, 1), "finish": (0, 0),
              "serve": (1, 1), "cache": (2, 2), "names": (1, 1), "name": (4, 4), "ask": (4, 1000000), "ways": (1, 1),
              "answers": (1, 1), "store": (1, 1), "guard": (2, 1000000), "passed": (1, 1), "copies": (3, 8),
              "write": (3, 1000000), "read": (2, 2), "kept": (2, 2), "deeds": (1, 1)}
SET_UPS = ("serve", "cache", "names", "name")
DEEDS_OF_COPIES = ("write", "read", "kept", "deeds")
# What a target begins with that is a host whose table of names is asked, and the name that it is asked for.
BY_NAME = "@"
NAME_OF_SERVER = "server"


def whole(text):
    """Return the number of one to four digits; raise HostError for another text."""
    if not 0 < len(text) <= MOST_DIGITS or any([sign not in DIGITS for sign in text]):
        raise HostError("no number")
    return int(text)


class Console:
    """A network, its origins, clients and tables of names by host, and the number of requests."""

    def __init__(self, seed=1):
        self.network = Network()
        self.seed = seed
        self.origins = {}
        self.clients = {}
        # The target that a client was told, by the client's host.
        self.targets = {}
        self.tables = {}
        self.stores = {}
        self.count = 0

    def enter(self, line):
        """Carry out a line and return its answer as lines; ("error",) for one that cannot be."""
        try:
            return self.carry([word for word in line.split(" ") if word != ""])
        except NetError:
            return ("error",)

    def carry(self, words):
        """Carry out a line's words; raise HostError for others."""
        word = words[0] if len(words) > 0 else ""
        rest = list(words[1:])
        if word not in MANY_WORDS or not MANY_WORDS[word][0] <= len(rest) <= MANY_WORDS[word][1]:
            raise HostError("no line")
        if word in SET_UPS:
            return self.set_up(word, rest)
        if word == "ask":
            return self.ask(rest[0], rest[1], rest[2], rest[3], " ".join(rest[4:]))
        if word == "copies":
            return self.set_copies(rest)
        if word in DEEDS_OF_COPIES:
            return self.use_copies(word, self.found(self.stores, rest[0]), rest[1:])
        if word in ("link", "down", "up"):
            return self.set_link(word, rest)
        if word in ("go", "finish"):
            return self.go_on(word, rest)
        return self.about_host(word, rest)

    def about_host(self, word, words):
        """Add a host, let a guard look at its packets, or tell about it."""
        name = words[0]
        if word == "host":
            return (str(self.network.add_host(name).address),)
        if word == "guard":
            self.host_of(name).guard_by(Guard(compiled(parse_rules(" ".join(words[1:])))))
            return ("guarded",)
        if word == "passed":
            return passed_rows(self.host_of(name))
        if word == "ways":
            return way_rows(self.host_of(name))
        if word == "answers":
            return answer_rows(self.found(self.clients, name))
        return store_rows(self.found(self.origins, name))

    def host_of(self, name):
        """Return a host; raise HostError for an unknown one."""
        return self.found(self.network.hosts, name)

    def found(self, table, name):
        """Return what a table has for a host's name; raise HostError for nothing."""
        if name not in table:
            raise HostError("there is nothing of that name")
        return table[name]

    def set_link(self, word, words):
        """Add a link, or let one go down or up."""
        if word == "link":
            self.network.add_link(words[0], words[1], whole(words[2]))
            return ("linked",)
        for link in self.network.links:
            if sorted([link.first, link.second]) == sorted(words):
                link.set_up(word == "up")
                return (word,)
        raise HostError("no such link")

    def go_on(self, word, words):
        """Go so many rounds, or until all that was asked is answered; return the time."""
        if word == "finish":
            self.network.settle(self.is_finished)
        else:
            for _ in range(whole(words[0])):
                self.network.round()
        return (str(self.network.time),)

    def is_finished(self):
        """Return True if no client waits for an answer, and no read or write is under way."""
        if any([not client.is_done() for client in self.clients.values()]):
            return False
        return all([store.is_calm() for store in self.stores.values()])

    def next_seed(self):
        """Return the seed of what runs next."""
        self.seed += 1
        return self.seed

    def set_up(self, word, words):
        """Let an origin, a cache or a table of names run on a host, or tell a name."""
        least, most = MANY_WORDS[word]
        if not least <= len(words) <= most:
            raise HostError("no line")
        if word == "name":
            table = self.found(self.tables, words[0])
            table.set_name(words[1], self.host_of(words[2]).address, whole(words[3]))
            return ("named",)
        host = self.host_of(words[0])
        if host.runs != [] or words[0] in self.tables:
            raise HostError("something runs there")
        if word == "cache":
            host.runs.append(CacheRun(host, self.host_of(words[1]).address, self.next_seed()))
        elif word == "names":
            self.tables[words[0]] = NameTable(host)
        else:
            self.origins[words[0]] = Origin()
            host.runs.append(OriginRun(host, self.origins[words[0]], self.next_seed()))
        return ("running",)

    def ask(self, name, target, method, path, body):
        """Let a host ask another one, told by its name or by "@" and a host whose table knows "server"."""
        host = self.host_of(name)
        request = Request(method, path, self.count + 1, (), body)
        self.check_request(host, request)
        if name in self.clients and self.targets[name] != target:
            raise HostError("a host asks one target alone")
        if name not in self.clients:
            self.begin_client(host, target)
        self.count += 1
        self.clients[name].left.append(request)
        return ("asked",)

    def check_request(self, host, request):
        """Raise HostError for a request that a host cannot send."""
        try:
            request_bytes(Request(request.method, request.path, request.number, {"from": host.name}, request.body))
        except MessageError:
            raise HostError("no request")

    def begin_client(self, host, target):
        """Let a client run on a host."""
        if host.runs != []:
            raise HostError("something runs there")
        if target.startswith(BY_NAME):
            table = self.found(self.tables, target[len(BY_NAME):])
            if host.name in self.tables:
                raise HostError("a host with a table of names asks no other one")
            asker = NameAsker(host, table.host.address)
            client = ClientRun(host, NAME_OF_SERVER, self.next_seed(), [], asker)
        else:
            client = ClientRun(host, self.host_of(target).address, self.next_seed(), [])
        host.runs.append(client)
        self.clients[host.name] = client
        self.targets[host.name] = target

    def set_copies(self, names):
        """Let copies be kept by some hosts."""
        hosts = [self.host_of(name) for name in names]
        if len(set(names)) != len(names) or any([host.runs != [] for host in hosts]):
            raise HostError("something runs there")
        ring = ring_of(hosts)
        for host in hosts:
            self.stores[host.name] = CopyStore(host, ring)
            host.runs.append(self.stores[host.name])
        return ("running",)

    def use_copies(self, word, store, words):
        """Write or read a key, or tell what a host keeps of it, or which reads and writes it has done."""
        if word == "deeds":
            return deed_rows(store)
        key = words[0]
        if word == "kept":
            return texts_of(store.siblings(key))
        if word == "read":
            store.read(key)
        else:
            store.write(key, " ".join(words[1:]), seen_of(store, key))
        return ("asked",)


def passed_rows(host):
    """Return how many packets a host's guard let through and dropped; raise HostError where there is no guard."""
    if host.guard is None:
        raise HostError("no guard is there")
    return (f"{host.guard.accepted} {host.guard.dropped}",)


def way_rows(host):
    """Return the ways that a host knows, by addresses ascending."""
    return tuple([f"{target} by {neighbour} in {distance}" for target, neighbour, distance in host.routes.shown()])


def answer_rows(client):
    """Return what a client asked and was answered."""
    rows = [f"{request.method} {request.path} {answer.code} {answer.body}" for request, _, answer, _ in client.events]
    return tuple([row.strip(" ") for row in rows])


def store_rows(origin):
    """Return what an origin has, by paths ascending."""
    rows = [f"{path} {version} {text}" for path, (version, text) in sorted(origin.resources.items())]
    return tuple([row.strip(" ") for row in rows])


def texts_of(siblings):
    """Return the texts of siblings; a dropped key has none."""
    return tuple([text for _, text in siblings if text is not None])


def deed_rows(store):
    """Return the reads and writes that a store has done."""
    rows = [(word, key, "|".join(texts_of(siblings))) for _, word, key, _, _, siblings in store.events]
    return tuple([" ".join(row) for row in rows])


def seen_of(store, key):
    """Return the counts that a store's last read of a key has told."""
    found = ()
    for _, word, told_key, _, _, siblings in store.events:
        if word == "read" and told_key == key:
            found = seen_by(siblings)
    return found
