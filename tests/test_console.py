import unittest

from wirestack.console import Console, whole
from wirestack.errors import HostError


class ConsoleCase(unittest.TestCase):
    def setUp(self):
        self.console = Console()

    def enter(self, *lines):
        """Carry out lines and return the answer to the last one."""
        found = None
        for line in lines:
            found = self.console.enter(line)
            self.assertIsInstance(found, tuple)
        return found

    def good(self, *lines):
        for line in lines:
            self.assertNotEqual(self.enter(line), ("error",), line)

    def row(self, names="abc", room=60):
        """Build hosts in a row that know their ways."""
        self.good(*[f"host {name}" for name in names])
        self.good(*[f"link {one} {other} {room}" for one, other in zip(names, names[1:])])
        self.good("go 12")

    def state(self):
        """Return all that lines can change."""
        net = self.console.network
        rows = [(link.first, link.second, link.room, link.up, len(link.on_way)) for link in net.links]
        for host in net.hosts.values():
            guard = None if host.guard is None else host.guard.rows
            rows.append((host.name, host.clock, [id(run) for run in host.runs], guard, sorted(host.services)))
            rows.extend([len(run.left) for run in host.runs if hasattr(run, "left")])
            rows.extend([(run.events, run.rows, len(run.deeds)) for run in host.runs if hasattr(run, "ring")])
        rows.extend([(name, table.rows) for name, table in self.console.tables.items()])
        return (net.time, self.console.count, repr(rows))

    def error(self, *lines):
        for line in lines:
            before = self.state()
            self.assertEqual(self.enter(line), ("error",), line)
            self.assertEqual(self.state(), before, line)


class WholeTest(unittest.TestCase):
    def test_numbers_of_one_to_four_digits(self):
        for text, number in (("0", 0), ("7", 7), ("0042", 42), ("9999", 9999)):
            self.assertEqual(whole(text), number)
        for text in ("", "10000", "-1", "1.5", "x", "1 ", "+1"):
            with self.assertRaises(HostError):
                whole(text)


class BuildTest(ConsoleCase):
    def test_fields(self):
        self.assertEqual((self.console.network.time, self.console.network.hosts, self.console.count), (0, {}, 0))

    def test_hosts(self):
        self.assertEqual([self.enter(f"host {name}") for name in ("ann", "bob", "c3")], [("1",), ("2",), ("3",)])
        self.error("host ann", "host", "host x y")
        self.assertEqual(list(self.console.network.hosts), ["ann", "bob", "c3"])

    def test_30_hosts_and_one_more(self):
        for number in range(1, 31):
            self.assertEqual(self.enter(f"host h{number}"), (str(number),))
        self.error("host h31")

    def test_links(self):
        self.good("host a", "host b", "host c")
        self.assertEqual([self.enter(line) for line in ("link a b 20", "link c b 9999")], [("linked",)] * 2)
        self.error("link a b 60", "link b a 60", "link a c 19", "link a c 10000", "link a c x", "link a a 60", "link a d 60",
                   "link d a 60", "link a c", "link a c 60 7", "link")
        self.assertEqual([link.room for link in self.console.network.links], [20, 9999])

    def test_links_go_down_and_up(self):
        self.row("abc")
        for line, answer, up in (("down a b", "down", False), ("down b a", "down", False), ("up b a", "up", True),
                                 ("up a b", "up", True)):
            self.assertEqual(self.enter(line), (answer,))
            self.assertEqual([link.up for link in self.console.network.links], [up, True])
        self.error("down a c", "up a d", "down a", "up a b c", "down a a", "down", "up")

    def test_time(self):
        self.row("ab")
        self.assertEqual([self.enter(line) for line in ("go 0", "go 1", "go 0020")], [("12",), ("13",), ("33",)])
        self.assertEqual(self.console.network.hosts["a"].clock, 33)
        self.error("go", "go x", "go 10000", "go -1", "go 1 2")
        self.assertEqual(self.enter("finish"), ("33",))
        self.error("finish 1")

    def test_ways(self):
        self.row("abcd")
        self.assertEqual(self.enter("ways a"), ("2 by 2 in 1", "3 by 2 in 2", "4 by 2 in 3"))
        self.assertEqual(self.enter("ways c"), ("1 by 2 in 2", "2 by 2 in 1", "4 by 4 in 1"))
        self.good("host e")
        self.assertEqual(self.enter("ways e"), ())
        self.error("ways", "ways x", "ways a b", "ways 1")

    def test_ways_are_told_by_the_addresses_that_host_answers(self):
        names = ("zoe", "9", "1", "eve", "2")
        address = {name: self.enter(f"host {name}")[0] for name in names}
        self.good(*[f"link {one} {other} 60" for one, other in zip(names, names[1:])], "go 15")
        for at, name in enumerate(names):
            rows = []
            for to, target in enumerate(names):
                if to != at:
                    neighbour = names[at + 1 if to > at else at - 1]
                    rows.append(f"{address[target]} by {address[neighbour]} in {abs(to - at)}")
            self.assertEqual(self.enter(f"ways {name}"), tuple(rows))

    def test_ways_are_ascending_as_numbers(self):
        self.row("lkjihgfedcba")
        # News of the last host comes a link further each third round.
        self.good("go 30")
        self.assertEqual(self.enter("ways l")[7:], ("9 by 2 in 8", "10 by 2 in 9", "11 by 2 in 10", "12 by 2 in 11"))
        self.assertEqual(self.enter("ways b"), tuple([f"{to} by 10 in {11 - to}" for to in range(1, 11)]) + ("12 by 12 in 1",))

    def test_ways_that_are_too_far_are_not_told(self):
        self.row("abc")
        self.good("down b c", "go 30")
        self.assertEqual([self.enter(f"ways {name}") for name in "abc"], [("2 by 2 in 1",), ("1 by 1 in 1",), ()])
        self.good("up b c", "go 12")
        self.assertEqual(self.enter("ways c"), ("1 by 2 in 2", "2 by 2 in 1"))

    def test_lines_that_cannot_be(self):
        self.row("ab")
        self.error("", " ", "x", "hosts a", "HOST c", "tell a b", "error", "go\n1")

    def test_blanks_around_words(self):
        self.assertEqual(self.enter("  host   a  "), ("1",))
        self.assertEqual(list(self.console.network.hosts), ["a"])


class AskTest(ConsoleCase):
    def test_requests_and_answers(self):
        self.row("abc")
        self.assertEqual(self.enter("serve c"), ("running",))
        self.assertEqual(self.enter("ask a c PUT /x hello  big world"), ("asked",))
        self.good("ask a c GET /x", "ask a c HEAD /x", "ask a c GET /y", "ask a c PUT /e", "ask a c GET /e", "ask a c APPEND /x !",
                  "ask a c PUT /b 1", "ask a c DELETE /b")
        self.assertEqual(self.enter("answers a"), ())
        time = self.enter("finish")
        self.assertEqual(time, (str(self.console.network.time),))
        self.assertEqual(self.enter("answers a"), ("PUT /x 201", "GET /x 200 hello big world", "HEAD /x 200", "GET /y 404",
                                                   "PUT /e 201", "GET /e 200", "APPEND /x 200", "PUT /b 201", "DELETE /b 204"))
        self.assertEqual(self.enter("store c"), ("/e 1", "/x 2 hello big world!"))
        self.assertEqual(self.enter("finish"), time)
        self.error("answers", "answers b", "answers c", "answers x", "answers a b", "store", "store a", "store x", "store c c")

    def test_requests_are_numbered_from_1_on_by_all_clients_together(self):
        self.row("abc")
        self.good("serve c", "ask a c GET /x", "ask b c GET /x", "ask a c GET /y")
        self.error("ask a c GET y")
        self.good("ask b c GET /z", "finish")
        clients = self.console.clients
        self.assertEqual([[event[0].number for event in clients[name].events] for name in "ab"], [[1, 3], [2, 4]])
        self.assertEqual(self.console.count, 4)

    def test_requests_that_cannot_be(self):
        self.row("abc")
        self.good("serve c")
        self.error("ask a c GET", "ask a c", "ask", "ask x c GET /x", "ask a x GET /x", "ask a c get /x", "ask a c GET x",
                   "ask a c GET /x?", "ask a c POST /x", "ask a c PUT /x 50%", "ask a c PUT /x " + "x" * 1501,
                   "ask a c GET /" + "x" * 60, "ask a @ GET /x", "ask a @b GET /x", "ask a @x GET /x")
        self.assertEqual(self.console.count, 0)
        self.good("ask a c PUT /x " + "x" * 1500)

    def test_a_host_asks_one_target_alone(self):
        self.row("abc")
        self.good("serve c", "names b", "name b server c 20", "ask a c GET /x")
        self.error("ask a b GET /x", "ask a @b GET /x", "ask a x GET /x")
        self.good("ask a c GET /y", "finish")
        self.assertEqual(self.enter("answers a"), ("GET /x 404", "GET /y 404"))

    def test_one_thing_runs_on_a_host(self):
        self.row("abcdef")
        self.good("serve a", "names b", "ask c a GET /x", "cache d a")
        self.good("host g", "host h", "host i", "copies g h i")
        for host in "acdg":
            self.error(f"serve {host}", f"cache {host} a", f"names {host}", f"copies {host} e f")
        self.error("serve b", "cache b a", "names b", "ask a d GET /x", "ask d a GET /x", "ask g a GET /x")
        self.good("ask b a GET /x")
        self.error("copies b e f")

    def test_lines_that_set_up_and_cannot_be(self):
        self.row("abc")
        self.error("serve", "serve x", "serve a b", "cache a", "cache x a", "cache a x", "cache a b c", "names", "names x",
                   "names a b", "name a n b 5", "name")
        self.good("names a")
        self.error("name a n b", "name a n b 5 6", "name a n x 5", "name x n b 5", "name a n b 1000", "name a n b x",
                   "name a N b 5", "name a n b 10000")
        self.assertEqual(self.enter("name a n b 999"), ("named",))

    def test_names_lead_to_a_server(self):
        self.row("abcd")
        self.assertEqual([self.enter(line) for line in ("serve d", "names b", "name b server d 5", "ask a @b PUT /x one")],
                         [("running",), ("running",), ("named",), ("asked",)])
        self.good("finish")
        self.assertEqual((self.enter("answers a"), self.enter("store d")), (("PUT /x 201",), ("/x 1 one",)))
        # Another server, once the name is no longer kept.
        self.good("serve c", "name b server c 5", "go 10", "ask a @b PUT /x two", "finish")
        self.assertEqual((self.enter("store c"), self.enter("store d")), (("/x 1 two",), ("/x 1 one",)))

    def test_a_name_that_is_not_told_leads_nowhere(self):
        self.row("ab")
        self.good("names b", "ask a @b GET /x", "finish")
        self.assertEqual(self.enter("answers a"), ("GET /x 504",))

    def test_a_host_with_a_table_of_names_asks_nobody_by_name(self):
        self.row("abc")
        self.good("serve c", "names a", "names b", "name b server c 5", "name a server c 5")
        self.error("ask a @b GET /x", "ask a @a GET /x")
        self.good("ask a c GET /x", "finish")
        self.assertEqual(self.enter("answers a"), ("GET /x 404",))

    def test_a_cache(self):
        self.row("abc")
        self.assertEqual(self.enter("cache b c"), ("running",))
        self.good("serve c", "ask a b PUT /x one", "ask a b GET /x", "ask a b GET /x", "finish")
        self.assertEqual(self.enter("answers a"), ("PUT /x 201", "GET /x 200 one", "GET /x 200 one"))
        self.assertEqual(self.console.network.hosts["b"].runs[0].cache.hits, 1)
        self.error("store b", "answers b")

    def test_no_answer(self):
        self.row("ab")
        self.good("serve b", "down a b", "ask a b GET /x", "go 300")
        self.assertEqual(self.enter("answers a"), ("GET /x 504",))
        # finish lets links go up.
        self.good("ask a b GET /x", "finish")
        self.assertEqual(self.enter("answers a"), ("GET /x 504", "GET /x 404"))


class GuardTest(ConsoleCase):
    def test_guards(self):
        self.row("abc")
        self.good("serve c")
        self.error("passed b")
        self.assertEqual(self.enter("guard b drop from 1-1 to 3 ;  accept"), ("guarded",))
        self.assertEqual(self.enter("passed b"), ("0 0",))
        self.good("ask a c GET /x", "go 300")
        self.assertEqual(self.enter("answers a"), ("GET /x 504",))
        guard = self.console.network.hosts["b"].guard
        self.assertEqual(self.enter("passed b"), (f"{guard.accepted} {guard.dropped}",))
        self.assertTrue(guard.accepted > 100 and guard.dropped > 4)
        self.assertEqual(self.enter("guard b accept"), ("guarded",))
        self.good("ask a c GET /y", "finish")
        self.assertEqual(self.enter("answers a"), ("GET /x 504", "GET /y 404"))

    def test_lines_that_cannot_be(self):
        self.row("abc")
        self.good("guard b drop")
        self.error("guard b", "guard", "guard x accept", "guard b accept;", "guard b pass", "guard b accept from 1", "passed",
                   "passed a", "passed x", "passed b b", "guard b " + "drop from 1; " * 8 + "accept",
                   "guard b " + "drop from 1-2 to 1-2 hops 1-2 size 1-2 most 5; " * 4 + "accept")


class CopiesTest(ConsoleCase):
    def test_writes_and_reads(self):
        self.row("abcd")
        self.assertEqual(self.enter("copies a b c d"), ("running",))
        self.assertEqual([self.enter(line) for line in ("write a k one two", "go 20", "read d k")], [("asked",), ("32",), ("asked",)])
        self.assertEqual(self.enter("deeds d"), ())
        self.good("finish", "write d k three", "finish", "read b k", "finish")
        self.assertEqual([self.enter(f"deeds {name}") for name in "abcd"],
                         [("write k one two",), ("read k three",), (), ("read k one two", "write k three")])
        holders = self.console.stores["a"].holders("k")
        for number, name in enumerate("abcd", 1):
            self.assertEqual(self.enter(f"kept {name} k"), ("three",) if number in holders else ())
            self.assertEqual(self.enter(f"kept {name} other"), ())

    def test_a_write_has_seen_what_the_hosts_last_read_of_the_key_told(self):
        self.row("abc")
        self.good("copies a b c", "write a k one", "write b k two", "finish", "read c k", "read c other", "finish")
        self.assertEqual(self.enter("deeds c"), ("read k one|two", "read other "))
        self.assertEqual(self.enter("kept c k"), ("one", "two"))
        # What b wrote itself it has seen, what a wrote it has not read.
        self.good("write b k three", "finish", "read c k", "finish")
        self.assertEqual(self.enter("kept a k"), ("one", "three"))
        self.good("write c k four", "write c other five", "finish")
        self.assertEqual((self.enter("kept a k"), self.enter("kept a other")), (("four",), ("five",)))
        # What a read of another key told counts for that key alone, as does what a write tells.
        self.good("write a k six", "write b new seven", "finish", "read b k", "finish", "read b new", "finish", "write b k eight",
                  "write a other nine", "finish")
        self.assertEqual((self.enter("kept a k"), sorted(self.enter("kept a other"))), (("eight",), ["five", "nine"]))

    def test_a_read_that_was_not_answered_yet_tells_nothing(self):
        self.row("abc")
        self.good("copies a b c", "write a k one", "finish", "read b k", "write b k two", "finish")
        self.assertEqual([sorted(self.enter(f"kept {name} k")) for name in "abc"], [["one", "two"]] * 3)

    def test_lines_that_cannot_be(self):
        self.row("abcd")
        self.error("copies", "copies a b", "copies a b x", "copies a b b", "copies a b c a", "write a k x", "read a k", "kept a k",
                   "deeds a")
        self.good("copies a b c")
        self.error("copies a b c", "copies b c d", "write a k", "write a", "write d k x", "write x k x", "read a", "read a k x",
                   "read d k", "kept a", "kept d k", "kept a k k", "deeds d", "deeds", "deeds a k", "write a k 5%",
                   "write a k " + "x" * 101, "write a " + "k" * 101 + " x", "read a " + "k" * 101)
        self.good("write a " + "k" * 100 + " " + "x" * 100)

    def test_three_to_eight_hosts_and_tables_of_names_do_not_count(self):
        self.good(*[f"host {name}" for name in "abcdefghijklm"])
        self.error("copies " + " ".join("abcdefghi"))
        self.good("names c", "copies " + " ".join("abcdefgh"), "copies i j k")
        self.error("names a", "ask c a GET /x")
        self.assertEqual([len(self.console.stores[name].ring.addresses) for name in "hk"], [8, 3])


class SessionTest(ConsoleCase):
    def test_a_whole_network_built_used_and_finished_by_lines(self):
        for line, answer in (("host ann", "1"), ("host hub", "2"), ("host web", "3"), ("host dns", "4"), ("host bob", "5"),
                             ("link ann hub 60", "linked"), ("link bob hub 40", "linked"), ("link hub web 20", "linked"),
                             ("link hub dns 100", "linked"), ("go 9", "9"), ("serve web", "running"), ("names dns", "running"),
                             ("name dns server web 50", "named"), ("cache hub web", "running"), ("ask ann @dns PUT /news one", "asked"),
                             ("go 30", "39"), ("ask bob hub GET /news", "asked"), ("ask bob hub GET /none", "asked"), ("go 21", "60"),
                             ("guard web accept", "guarded"), ("down ann hub", "down"), ("ask ann @dns APPEND /news  more", "asked")):
            self.assertEqual(self.enter(line), (answer,), line)
        time = int(self.enter("finish")[0])
        self.assertGreater(time, 60)
        self.assertEqual(self.enter("answers ann"), ("PUT /news 201", "APPEND /news 200"))
        self.assertEqual(self.enter("answers bob"), ("GET /news 200 one", "GET /none 404"))
        self.assertEqual(self.enter("store web"), ("/news 2 onemore",))
        self.assertEqual(self.enter("go 5"), (str(time + 5),))

    def test_the_seed_changes_no_answer(self):
        found = []
        for seed in (1, 7, 123456):
            self.console = Console(seed)
            self.row("abc", 20)
            self.good("serve c", "ask a c PUT /x one", "ask a c GET /x", "finish")
            found.append(self.enter("answers a"))
        self.assertEqual(found, [("PUT /x 201", "GET /x 200 one")] * 3)

    def test_carry_and_the_other_calls_raise_errors(self):
        self.row("abc")
        for call in (lambda: self.console.carry([]), lambda: self.console.carry(["x"]), lambda: self.console.carry(["host", "a"]),
                     lambda: self.console.set_up("name", ["a", "n", "b", "5"]), lambda: self.console.set_up("serve", ["a", "b"]),
                     lambda: self.console.set_up("cache", ["a"]), lambda: self.console.ask("a", "b", "GET", "x", ""),
                     lambda: self.console.ask("a", "x", "GET", "/x", "")):
            with self.assertRaises(HostError):
                call()
        self.assertEqual(self.console.carry(("serve", "c")), ("running",))
        self.assertEqual(self.console.set_up("names", ["b"]), ("running",))
        self.assertEqual(self.console.set_up("name", ["b", "server", "c", "9"]), ("named",))
        self.assertEqual(self.console.ask("a", "@b", "PUT", "/x", "one two"), ("asked",))
        self.good("finish")
        self.assertEqual(self.enter("store c"), ("/x 1 one two",))


if __name__ == "__main__":
    unittest.main()
