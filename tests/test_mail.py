import random
import unittest

from wirestack.errors import MessageError, OctetError
from wirestack.mail import Mail, Relay, check_person, mail_bytes, read_mail
from wirestack.network import Network
from wirestack.octets import LETTERS

NAMES = "abcdefghij"


def shown(rows):
    return [mail.shown() for mail in rows]


class PersonTest(unittest.TestCase):
    def test_names_of_1_to_20_small_letters_and_digits(self):
        self.assertEqual(check_person("ann@home"), ("ann", "home"))
        self.assertEqual(check_person("0@9"), ("0", "9"))
        self.assertEqual(check_person("a" * 20 + "@" + "z9" * 10), ("a" * 20, "z9" * 10))

    def test_other_names_are_refused(self):
        for name in ("", "@", "ann", "ann@", "@home", "ann@home@", "a@b@c", "Ann@home", "ann@Home", "an n@home", "ann@ho-me",
                     "a.b@home", "a" * 21 + "@home", "ann@" + "b" * 21, "ann\n@home", " ann@home"):
            with self.assertRaises(MessageError):
                check_person(name)


class MailBytesTest(unittest.TestCase):
    ROWS = ((1, 1, "ann@home", "bob@work", "hello", 0, ""), (65535, 10 ** 9, "a@b", "c@d", "", 6, "nobody"),
            (7, 300, "a" * 20 + "@" + "b" * 20, "c@d", "x" * 200, 3, "too far"), (7, 3, "a@b", "c@d", LETTERS, 200, "nowhere"))

    def test_fields(self):
        mail = Mail(*self.ROWS[2])
        self.assertEqual((mail.origin, mail.number, mail.sender, mail.target, mail.text, mail.passed, mail.word), self.ROWS[2])
        self.assertEqual(mail.shown(), self.ROWS[2])
        self.assertEqual(Mail(1, 2, "a@b", "c@d", "x").shown(), (1, 2, "a@b", "c@d", "x", 0, ""))

    def test_one_more_relay(self):
        mail = Mail(*self.ROWS[2])
        self.assertEqual(mail.further().shown(), self.ROWS[2][:5] + (4, "too far"))
        self.assertEqual(mail.shown(), self.ROWS[2])

    def test_bytes_come_back(self):
        for row in self.ROWS:
            data = mail_bytes(Mail(*row))
            self.assertIsInstance(data, tuple)
            self.assertEqual(read_mail(data).shown(), row)

    def test_what_cannot_be_told(self):
        for row in ((1, 1, "a@b", "c@d", "100%"), (-1, 1, "a@b", "c@d", ""), (1, 2 ** 62, "a@b", "c@d", "")):
            with self.assertRaises(OctetError):
                mail_bytes(Mail(*row))

    def test_damaged_bytes_are_refused(self):
        data = mail_bytes(Mail(*self.ROWS[0]))
        for place in range(len(data)):
            with self.assertRaises(MessageError):
                read_mail(data[:place])
            with self.assertRaises(MessageError):
                read_mail(data + (0,) * (place + 1))
            try:
                self.assertNotEqual(read_mail(data[:place] + ((data[place] + 1) % 256,) + data[place + 1:]).shown(), self.ROWS[0])
            except MessageError:
                pass

    def test_long_texts_and_other_words_are_refused(self):
        with self.assertRaises(MessageError):
            read_mail(mail_bytes(Mail(1, 1, "a@b", "c@d", "x" * 201)))
        data = mail_bytes(Mail(*self.ROWS[0]))
        for word in range(6):
            if word < 4:
                self.assertEqual(read_mail(data[:-1] + (word,)).word, ("", "nobody", "too far", "nowhere")[word])
            else:
                with self.assertRaises(MessageError):
                    read_mail(data[:-1] + (word,))


class Sent:
    """A host that writes down what is sent, as (clock, target, bytes)."""

    def __init__(self, address):
        self.address = address
        self.clock = 0
        self.rows = []
        self.services = {}

    def add_service(self, kind, service):
        self.services[kind] = service

    def send(self, target, kind, data):
        self.rows.append((self.clock, target, data))


class PostTest(unittest.TestCase):
    def relay(self, ways=(), people=("ann", "abe")):
        return Relay(Sent(1), "home", people, dict(ways))

    def test_fields(self):
        relay = self.relay()
        self.assertEqual((relay.host.address, relay.place, relay.boxes, relay.waiting), (1, "home", {"ann": [], "abe": []}, []))
        self.assertTrue(relay.is_done())

    def test_mail_of_a_place_to_itself(self):
        relay = self.relay()
        self.assertEqual([relay.post("ann@home", "abe@home", text) for text in ("one", "two")], [1, 2])
        self.assertEqual(relay.post("ann@home", "ann@home", "three"), 3)
        self.assertEqual(shown(relay.boxes["abe"]), [(1, 1, "ann@home", "abe@home", "one", 0, ""),
                                                     (1, 2, "ann@home", "abe@home", "two", 0, "")])
        self.assertEqual(shown(relay.boxes["ann"]), [(1, 3, "ann@home", "ann@home", "three", 0, "")])
        self.assertTrue(relay.is_done())

    def test_nobody_and_nowhere_go_back_at_once(self):
        relay = self.relay()
        relay.post("ann@home", "eve@home", "one")
        relay.post("ann@home", "bob@work", "two")
        self.assertEqual(shown(relay.boxes["ann"]), [(1, 1, "ann@home", "eve@home", "one", 0, "nobody"),
                                                     (1, 2, "ann@home", "bob@work", "two", 0, "nowhere")])

    def test_what_cannot_be_posted(self):
        relay = self.relay()
        for row in (("eve@home", "abe@home", "x"), ("ann@work", "abe@home", "x"), ("ann", "abe@home", "x"),
                    ("ann@home", "abe", "x"), ("ann@home", "Abe@home", "x"), ("ann@home", "abe@home", "x" * 201),
                    ("ann@home", "abe@home", "50%"), ("ann@home", "abe@home", "\t")):
            with self.assertRaises(MessageError):
                relay.post(*row)
        self.assertEqual((relay.boxes, relay.waiting), ({"ann": [], "abe": []}, []))
        self.assertEqual(relay.post("ann@home", "abe@home", "x" * 200), 1)

    def test_a_way_of_a_place_goes_ahead_of_that_of_all_others(self):
        for ways, target in (({"work": 7, "*": 8}, 7), ({"farm": 7, "*": 8}, 8), ({"work": 7}, 7)):
            relay = self.relay(ways)
            relay.post("ann@home", "bob@work", "x")
            relay.tick()
            self.assertEqual([row[1] for row in relay.host.rows], [target])

    def test_when_mail_is_sent_again(self):
        relay = self.relay({"*": 2})
        relay.post("ann@home", "bob@work", "x")
        self.assertEqual((len(relay.waiting), relay.is_done(), relay.host.rows), (1, False, []))
        for clock in range(5, 400):
            relay.host.clock = clock
            relay.tick()
        times = [clock for clock, target, data in relay.host.rows]
        self.assertEqual(times, [5, 13, 29, 61, 125, 189, 253, 317, 381])
        self.assertEqual(len({data for _, _, data in relay.host.rows}), 1)


class TakeTest(unittest.TestCase):
    def setUp(self):
        self.one = Relay(Sent(1), "home", ["ann"], {"*": 2})
        self.two = Relay(Sent(2), "work", ["bob"], {"home": 1})

    def carry(self, one, other):
        """Let what a relay has sent come to another one."""
        rows, one.host.rows = one.host.rows, []
        for _, target, data in rows:
            self.assertEqual(target, other.host.address)
            other.take(one.host.address, data)
        return [data for _, _, data in rows]

    def test_mail_that_comes_is_told_as_taken_each_time_and_kept_once(self):
        self.one.post("ann@home", "bob@work", "x")
        self.one.tick()
        sent = self.carry(self.one, self.two)
        for many in (1, 2, 3):
            self.assertEqual((len(self.two.host.rows), shown(self.two.boxes["bob"])),
                             (many, [(1, 1, "ann@home", "bob@work", "x", 1, "")]))
            self.two.take(1, sent[0])
        self.assertFalse(self.one.is_done())
        self.carry(self.two, self.one)
        self.assertTrue(self.one.is_done())
        self.one.host.clock = 100
        self.one.tick()
        self.assertEqual(self.one.host.rows, [])

    def test_only_who_was_sent_a_mail_can_tell_that_it_was_taken(self):
        self.one.post("ann@home", "bob@work", "x")
        self.one.post("ann@home", "bob@work", "y")
        self.one.tick()
        self.carry(self.one, self.two)
        taken = [data for _, _, data in self.two.host.rows]
        self.one.take(3, taken[0])
        self.assertEqual(len(self.one.waiting), 2)
        self.one.take(2, taken[1])
        self.assertEqual([row.mail.text for row in self.one.waiting], ["x"])
        self.one.take(2, taken[1])
        self.one.take(2, taken[0])
        self.assertTrue(self.one.is_done())

    def test_what_is_no_message_is_left_out(self):
        self.one.post("ann@home", "bob@work", "x")
        self.one.tick()
        good = self.one.host.rows[0][2]
        for data in ((), (1,), (2,), (9,) + good[1:], (0,) + good[1:], good[:-1], good + (0,), (2,) + good[2:], good[1:]):
            self.two.take(1, data)
            self.one.take(2, data)
        self.assertEqual((self.two.boxes, self.two.host.rows, len(self.one.waiting)), ({"bob": []}, [], 1))

    def test_mail_that_cannot_go_on_goes_back_with_the_reason(self):
        for target, word in (("eve@work", "nobody"), ("bob@farm", "nowhere")):
            self.setUp()
            self.one.post("ann@home", target, "x")
            self.one.tick()
            self.carry(self.one, self.two)
            self.assertEqual(self.two.boxes, {"bob": []})
            self.two.tick()
            self.carry(self.two, self.one)
            self.assertEqual(shown(self.one.boxes["ann"]), [(1, 1, "ann@home", target, "x", 1, word)])
            self.assertTrue(self.one.is_done())
            self.carry(self.one, self.two)
            self.assertTrue(self.two.is_done())

    def come(self, relay, mail):
        """Let a mail come to a relay from host 9."""
        relay.take(9, (1,) + mail_bytes(mail))

    def test_too_far(self):
        for passed, word in ((5, None), (6, "too far"), (7, "too far")):
            relay = Relay(Sent(2), "work", ["bob"], {"*": 1})
            self.come(relay, Mail(4, 1, "ann@home", "joe@farm", "x", passed))
            mail = relay.waiting[0].mail
            self.assertEqual(mail.shown()[:5], (4, 1, "ann@home", "joe@farm", "x"))
            self.assertEqual((mail.passed, mail.word), (1, word) if word else (passed + 1, ""))

    def test_at_its_place_mail_comes_however_far_it_came(self):
        self.come(self.two, Mail(4, 1, "ann@home", "bob@work", "x", 9))
        self.come(self.two, Mail(4, 2, "bob@work", "ann@home", "x", 9, "nowhere"))
        self.assertEqual([mail.passed for mail in self.two.boxes["bob"]], [9, 9])

    def test_nobody_goes_ahead_of_too_far_and_too_far_ahead_of_nowhere(self):
        for target, word in (("eve@work", "nobody"), ("eve@farm", "too far")):
            self.setUp()
            self.come(self.two, Mail(4, 1, "ann@home", target, "x", 6))
            self.assertEqual([row.mail.word for row in self.two.waiting], [word])

    def test_mail_that_goes_back_is_dropped_where_it_cannot_go_on(self):
        for sender, passed in (("eve@work", 0), ("joe@farm", 0), ("ann@home", 6)):
            self.setUp()
            self.come(self.two, Mail(4, 1, sender, "bob@work", "x", passed, "nobody"))
            self.assertEqual((self.two.boxes, self.two.waiting, len(self.two.host.rows)), ({"bob": []}, [], 1))

    def test_mail_that_comes_again_further_on_goes_on(self):
        mail = Mail(4, 1, "ann@home", "bob@farm", "x", 1)
        relay = Relay(Sent(2), "work", ["bob"], {"*": 1})
        for _ in range(2):
            self.come(relay, mail)
            self.come(relay, mail.further().further())
        self.assertEqual([row.mail.passed for row in relay.waiting], [2, 4])


class NetworkTest(unittest.TestCase):
    def build(self, links, people="p"):
        """Build hosts with a relay each, places being hosts' names, and ways the next hosts on the way there."""
        self.net = Network()
        names = sorted(set("".join(links)))
        for name in names:
            self.net.add_host(name)
        for link in links:
            self.net.add_link(link[0], link[1])
        self.relays = {}
        for name in names:
            self.relays[name] = Relay(self.net.hosts[name], name, list(people), {})
            self.net.hosts[name].runs.append(self.relays[name])

    def chain(self, many):
        self.build([NAMES[at] + NAMES[at + 1] for at in range(many)])
        for at in range(many + 1):
            for other in range(many + 1):
                if other != at:
                    step = at + 1 if other > at else at - 1
                    self.relays[NAMES[at]].ways[NAMES[other]] = self.net.hosts[NAMES[step]].address

    def finish(self):
        self.net.settle(lambda: all(relay.is_done() for relay in self.relays.values()))

    def box(self, name, person="p"):
        return shown(self.relays[name].boxes[person])

    def test_over_one_relay_and_six_and_seven(self):
        for many in (1, 2, 6, 7, 8):
            self.chain(many)
            last = NAMES[many]
            self.relays["a"].post("p@a", f"p@{last}", "x")
            self.finish()
            if many <= 6:
                self.assertEqual((self.box(last), self.box("a")), ([(1, 1, "p@a", f"p@{last}", "x", many, "")], []))
            else:
                self.assertEqual((self.box(last), self.box("a")), ([], [(1, 1, "p@a", f"p@{last}", "x", 6, "too far")]))

    def test_the_way_back_is_counted_from_0_on_again(self):
        self.chain(6)
        self.relays["a"].post("p@a", "q@g", "x")
        self.relays["b"].post("p@b", "p@nowhere", "y")
        self.finish()
        self.assertEqual(self.box("a"), [(1, 1, "p@a", "q@g", "x", 6, "nobody")])
        self.assertEqual(self.box("b"), [(2, 1, "p@b", "p@nowhere", "y", 0, "nowhere")])

    def test_a_way_back_that_leads_elsewhere_ends_there(self):
        self.chain(3)
        self.relays["c"].ways.pop("a")
        self.relays["a"].post("p@a", "q@d", "x")
        self.finish()
        self.assertEqual([self.box(name) for name in "abcd"], [[], [], [], []])

    def test_mail_in_a_ring_is_too_far(self):
        self.build(["ab", "bc", "ca"])
        for one, other in ("ab", "bc", "ca"):
            self.relays[one].ways["*"] = self.net.hosts[other].address
        self.relays["b"].post("p@b", "p@z", "x")
        self.finish()
        # Six relays are passed on two ways round, so the mail ends where it began.
        self.assertEqual(self.box("b"), [(2, 1, "p@b", "p@z", "x", 0, "too far")])

    def test_each_mail_comes_once_or_goes_back_once_over_bad_links(self):
        for seed in range(40):
            chance = random.Random(seed)
            self.chain(chance.randrange(1, 5))
            names = sorted(self.relays)
            posted = []
            for _ in range(chance.randrange(150, 600)):
                if chance.random() < 0.05:
                    one = chance.choice(names)
                    target = chance.choice(["p@" + chance.choice(names), "q@" + chance.choice(names), "p@z"])
                    posted.append((one, target, self.relays[one].post("p@" + one, target, str(len(posted)))))
                self.net.act(chance.randrange(10 ** 9))
            self.finish()
            for _ in range(5):
                self.net.round()
            found = sorted([mail.shown() for relay in self.relays.values() for mail in relay.boxes["p"]])
            rows = []
            for number, (one, target, count) in enumerate(posted):
                person, place = target.split("@")
                far = abs(NAMES.find(one) - NAMES.find(place)) if place != "z" else 0
                word = "" if person == "p" and place != "z" else "nobody" if place != "z" else "nowhere"
                rows.append((NAMES.find(one) + 1, count, "p@" + one, target, str(number), far, word))
            self.assertEqual(found, sorted(rows), seed)
            for relay_name, relay in self.relays.items():
                for mail in relay.boxes["p"]:
                    self.assertEqual((mail.sender if mail.word else mail.target).split("@")[1], relay_name)


if __name__ == "__main__":
    unittest.main()
