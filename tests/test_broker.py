import random
import unittest

from wirestack.broker import WISHES, Broker, Follower, NewsRow, read_wish, wish_bytes
from wirestack.errors import MessageError, OctetError
from wirestack.network import Network
from wirestack.octets import LETTERS, Reader
from wirestack.topics import fits_topic, pattern_parts, topic_parts


class Sent:
    """A host that writes down what is sent, as (clock, target, bytes)."""

    def __init__(self, address):
        self.address = address
        self.clock = 0
        self.rows = []

    def add_service(self, kind, service):
        pass

    def send(self, target, kind, data):
        self.rows.append((self.clock, target, data))


class WishBytesTest(unittest.TestCase):
    ROWS = (("publish", "a/b", "hello"), ("keep", "a", "x" * 200), ("follow", "a/+/#", ""), ("leave", "#", ""),
            ("publish", "a", LETTERS))

    def test_wishes(self):
        self.assertEqual(WISHES, ("publish", "keep", "follow", "leave"))

    def test_bytes_come_back(self):
        for row in self.ROWS:
            data = wish_bytes(*row)
            self.assertIsInstance(data, tuple)
            self.assertEqual(read_wish(Reader(data)), row)
            reader = Reader((7, 7) + data)
            reader.take(2)
            self.assertEqual(read_wish(reader), row)

    def test_damaged_bytes_are_refused(self):
        for row in self.ROWS:
            data = wish_bytes(*row)
            for place in range(len(data)):
                with self.assertRaises(MessageError):
                    read_wish(Reader(data[:place]))
            for other in (data + (0,), (4,) + data[1:], (200, 0) + data[1:], data[:-1] + (95,) if row[2] else (0, 1, 95, 0)):
                with self.assertRaises(MessageError):
                    read_wish(Reader(other))

    def test_texts_of_200_and_201_characters(self):
        self.assertEqual(read_wish(Reader(wish_bytes("publish", "a", "x" * 200)))[2], "x" * 200)
        with self.assertRaises(MessageError):
            read_wish(Reader(wish_bytes("publish", "a", "x" * 201)))

    def test_what_cannot_be_told(self):
        with self.assertRaises(OctetError):
            wish_bytes("publish", "a", "5%")


class NewsRowTest(unittest.TestCase):
    def test_things_wait_one_after_another(self):
        row = NewsRow(7)
        self.assertEqual((row.address, row.things), (7, []))
        self.assertEqual([row.add(body) for body in ((1,), (2,), (3,))], [1, 2, 3])
        self.assertEqual(row.things, [(1, (1,)), (2, (2,)), (3, (3,))])
        row.drop_told(2, 5)
        self.assertEqual(len(row.things), 3)
        row.drop_told(1, 5)
        self.assertEqual(row.things, [(2, (2,)), (3, (3,))])
        for number in (1, 2, 3, 3):
            row.drop_told(number, 5)
        self.assertEqual((list(row.things), row.add((4,))), ([], 4))


class BrokerCase(unittest.TestCase):
    """A broker at host 1, followers at hosts from 2 on."""

    def setUp(self):
        self.broker = Broker(Sent(1))
        self.followers = {address: Follower(Sent(address), 1) for address in (2, 3, 4)}

    def carry(self, one, other):
        """Let what one host has sent to another one come there; return the messages."""
        rows, one.host.rows = one.host.rows, []
        for _, target, data in rows:
            self.assertEqual(target, other.host.address)
            other.take(one.host.address, data)
        return [data for _, _, data in rows]

    def go(self, many=1):
        """Let ticks pass in which all that is sent comes."""
        for _ in range(many):
            for one in [self.broker] + list(self.followers.values()):
                one.host.clock += 1
                one.tick()
            for _ in range(2):
                rows, self.broker.host.rows = self.broker.host.rows, []
                for _, target, data in rows:
                    self.followers[target].take(1, data)
                for follower in self.followers.values():
                    self.carry(follower, self.broker)

    def wish(self, address, *row):
        """Let a wish be carried out."""
        number = self.followers[address].wish(*row)
        self.go(3)
        return number

    def waiting(self, address):
        """Return the (topic, text) rows that wait for an address."""
        row = self.broker.rows.get(address)
        return [] if row is None else [read_wish(Reader((0,) + body))[1:] for _, body in row.things]


class FollowerTest(BrokerCase):
    def test_fields(self):
        follower = self.followers[2]
        self.assertEqual((follower.host.address, follower.last, follower.news_read, follower.is_done()), (2, 0, [], True))

    def test_bad_wishes(self):
        follower = self.followers[2]
        for row in (("tell", "a", "x"), ("publish", "a/+", "x"), ("keep", "#", "x"), ("publish", "", "x"), ("follow", "a/#/b"),
                    ("leave", "A"), ("follow", ""), ("publish", "a", "x" * 201), ("publish", "a", "5%"), ("follow", "a", "\t")):
            with self.assertRaises(MessageError):
                follower.wish(*row)
        self.assertTrue(follower.is_done())
        self.assertEqual([follower.wish("publish", "a", "x" * 200), follower.wish("follow", "a/#"), follower.wish("leave", "+")],
                         [1, 2, 3])
        self.assertFalse(follower.is_done())

    def test_wishes_go_one_at_a_time_again_each_8_ticks(self):
        follower = self.followers[2]
        follower.wish("publish", "a", "x")
        follower.wish("publish", "b", "y")
        for clock in range(3, 30):
            follower.host.clock = clock
            follower.tick()
        self.assertEqual([(clock, target) for clock, target, _ in follower.host.rows], [(3, 1), (11, 1), (19, 1), (27, 1)])
        self.assertEqual(len({data for _, _, data in follower.host.rows}), 1)
        self.carry(follower, self.broker)
        self.assertEqual(self.broker.log, [(2, 1, "publish", "a", "x")])
        self.carry(self.broker, follower)
        # The next one is due at once.
        follower.tick()
        self.carry(follower, self.broker)
        self.assertEqual(self.broker.log, [(2, 1, "publish", "a", "x"), (2, 2, "publish", "b", "y")])
        self.carry(self.broker, follower)
        self.assertTrue(follower.is_done())

    def test_news_are_read_once_and_in_order_and_each_time_told_as_read(self):
        follower = self.followers[2]
        self.broker.tell(2, "a", "one")
        self.broker.tell(2, "b", "two")
        self.broker.tick()
        first = self.broker.host.rows[0][2]
        for many in (1, 2):
            follower.take(1, first)
            self.assertEqual((follower.news_read, follower.last, len(follower.host.rows)), ([("a", "one")], 1, many))
        self.carry(follower, self.broker)
        self.broker.host.rows = []
        self.broker.tick()
        second = self.broker.host.rows[0][2]
        other = Follower(Sent(2), 1)
        other.take(1, second)
        self.assertEqual((other.news_read, other.last, len(other.host.rows)), ([], 0, 1))
        follower.take(1, second)
        follower.take(1, first)
        self.assertEqual(follower.news_read, [("a", "one"), ("b", "two")])

    def test_only_the_broker_is_heard(self):
        follower = self.followers[2]
        self.broker.tell(2, "a", "one")
        self.broker.tick()
        follower.take(3, self.broker.host.rows[0][2])
        self.assertEqual((follower.news_read, follower.host.rows), ([], []))

    def test_what_is_no_message_is_left_out(self):
        follower = self.followers[2]
        self.broker.tell(2, "a", "one")
        self.broker.tick()
        good = self.broker.host.rows[0][2]
        for data in ((), (1,), (3,), good[:-1], good + (0,), (9,) + good[1:], (2, 1, 0), (3, 1), (3, 1, 1, 200, 0)):
            follower.take(1, data)
            self.broker.take(2, data)
        self.assertEqual((follower.news_read, follower.host.rows, self.broker.log), ([], [], []))
        self.assertFalse(self.broker.is_done())

    def test_news_that_are_none_are_left_out(self):
        follower = self.followers[2]
        for topic, text in (("A", "x"), ("a/#", "x"), ("", "x"), ("a", "x" * 201)):
            self.broker = Broker(Sent(1))
            self.broker.tell(2, topic, text)
            self.broker.tick()
            self.carry(self.broker, follower)
            self.assertEqual((follower.news_read, follower.last, follower.host.rows), ([], 0, []))
        self.broker = Broker(Sent(1))
        self.broker.tell(2, "a", "x" * 200)
        self.broker.tick()
        self.carry(self.broker, follower)
        self.assertEqual((follower.news_read, follower.last), ([("a", "x" * 200)], 1))

    def test_only_what_tells_that_a_wish_was_heard_ends_its_waiting(self):
        follower = self.followers[2]
        follower.wish("publish", "a", "x")
        self.broker.tell(2, "a", "x")
        follower.tick()
        self.broker.tick()
        self.carry(self.broker, follower)
        self.assertFalse(follower.is_done())
        self.carry(follower, self.broker)
        heard = self.broker.host.rows[-1][2]
        follower.take(1, heard + (0,))
        follower.take(2, heard)
        self.assertFalse(follower.is_done())
        follower.take(1, heard)
        self.assertTrue(follower.is_done())


class BrokerTest(BrokerCase):
    def test_fields(self):
        self.assertEqual((self.broker.host.address, self.broker.log, self.broker.is_done()), (1, [], True))

    def test_wishes_that_come_twice_too_late_or_ahead_of_their_turn(self):
        follower = self.followers[2]
        sent = []
        for text in ("one", "two", "three"):
            follower.wish("publish", "a", text)
            follower.host.clock += 1
            follower.tick()
            sent.extend(self.carry(follower, self.broker))
            self.carry(self.broker, follower)
        self.setUp()
        self.broker.take(2, sent[1])
        self.assertEqual((self.broker.log, len(self.broker.host.rows)), ([], 1))
        for place, many in ((0, 1), (0, 1), (2, 1), (1, 2), (0, 2), (1, 2), (2, 3), (2, 3)):
            before = len(self.broker.host.rows)
            self.broker.take(2, sent[place])
            self.assertEqual((len(self.broker.log), len(self.broker.host.rows)), (many, before + 1))
        self.assertEqual(self.broker.log, [(2, 1, "publish", "a", "one"), (2, 2, "publish", "a", "two"),
                                           (2, 3, "publish", "a", "three")])
        # Each address has its own numbers.
        self.broker.take(3, sent[0])
        self.assertEqual(self.broker.log[-1], (3, 1, "publish", "a", "one"))

    def test_texts_are_told_to_who_follows(self):
        self.wish(2, "follow", "a/+")
        self.wish(3, "follow", "#")
        self.wish(2, "publish", "a/b", "one")
        self.wish(4, "publish", "b", "two")
        self.go(5)
        self.assertEqual([follower.news_read for follower in self.followers.values()],
                         [[("a/b", "one")], [("a/b", "one"), ("b", "two")], []])
        self.assertTrue(self.broker.is_done())

    def test_a_text_is_told_once_to_a_follower_of_whom_two_patterns_fit(self):
        for pattern in ("a/#", "+/b", "a/b"):
            self.wish(2, "follow", pattern)
        self.wish(3, "publish", "a/b", "one")
        self.go(9)
        self.assertEqual(self.followers[2].news_read, [("a/b", "one")])

    def test_kept_texts_are_told_to_who_begins_to_follow_in_ascending_order_of_topics(self):
        for topic, text in (("b", "1"), ("a/c", "2"), ("a", "3"), ("a/b", "4"), ("b", "5")):
            self.wish(3, "keep", topic, text)
        self.wish(3, "publish", "a/a", "6")
        self.wish(2, "follow", "#")
        self.go(9)
        self.assertEqual(self.followers[2].news_read, [("a", "3"), ("a/b", "4"), ("a/c", "2"), ("b", "5")])
        # Not again to who follows it already.
        self.wish(2, "follow", "#")
        self.go(9)
        self.assertEqual(len(self.followers[2].news_read), 4)
        self.wish(2, "leave", "#")
        self.wish(2, "follow", "#")
        self.go(9)
        self.assertEqual(len(self.followers[2].news_read), 8)

    def test_a_kept_text_is_told_at_once_to_who_follows(self):
        self.wish(2, "follow", "a")
        self.wish(3, "keep", "a", "1")
        self.wish(4, "follow", "+")
        self.go(9)
        self.assertEqual([self.followers[address].news_read for address in (2, 4)], [[("a", "1")], [("a", "1")]])

    def test_who_leaves_is_told_no_more(self):
        self.wish(2, "follow", "a")
        self.wish(2, "follow", "+")
        self.wish(2, "leave", "b")
        self.wish(2, "leave", "a")
        self.wish(3, "publish", "a", "one")
        self.wish(2, "leave", "+")
        self.wish(2, "leave", "+")
        self.wish(3, "publish", "a", "two")
        self.go(9)
        self.assertEqual(self.followers[2].news_read, [("a", "one")])

    def test_wishes_that_cannot_be_carried_out(self):
        self.broker.carry(2, 1, ("follow", "#", ""))
        for wish, error in ((("publish", "a/+", "x"), MessageError), (("follow", "A", ""), MessageError),
                            (("tell", "a", ""), MessageError), (("keep", "a", "5%"), OctetError)):
            with self.assertRaises(error):
                self.broker.carry(2, 2, wish)
        self.assertEqual((len(self.broker.log), self.broker.is_done()), (1, True))
        with self.assertRaises(OctetError):
            self.broker.tell(3, "a", "5%")
        self.broker.take(2, (1, 1) + wish_bytes("publish", "a/+", "x"))
        self.assertEqual((len(self.broker.log), self.broker.host.rows), (1, []))

    def test_news_go_one_at_a_time_again_each_8_ticks(self):
        self.broker.tell(2, "a", "one")
        self.broker.tell(2, "a", "two")
        self.broker.tell(3, "a", "three")
        self.assertFalse(self.broker.is_done())
        for clock in range(3, 30):
            self.broker.host.clock = clock
            self.broker.tick()
        self.assertEqual([(clock, target) for clock, target, _ in self.broker.host.rows],
                         [(clock, target) for clock in (3, 11, 19, 27) for target in (2, 3)])
        rows, self.broker.host.rows = self.broker.host.rows, []
        self.followers[2].take(1, rows[0][2])
        self.carry(self.followers[2], self.broker)
        # The next one is due at once, that of the other address is not.
        self.broker.tick()
        self.assertEqual([target for _, target, _ in self.broker.host.rows], [2])
        self.assertEqual(self.waiting(2), [("a", "two")])
        self.assertEqual(self.waiting(3), [("a", "three")])


class NetworkTest(unittest.TestCase):
    TOPICS = ("a", "b", "a/b", "a/c", "b/c")
    PATTERNS = ("#", "+", "a/#", "a/+", "+/c", "b", "a/b")

    def drawn_wish(self, chance, number):
        deed = chance.choice(("publish", "publish", "keep", "follow", "follow", "leave"))
        if deed in ("publish", "keep"):
            return (deed, chance.choice(self.TOPICS), f"text {number}")
        return (deed, chance.choice(self.PATTERNS), "")

    def expected(self, log, addresses):
        """Return what each follower reads if wishes are carried out as the log tells."""
        found = {address: [] for address in addresses}
        followed = {address: [] for address in addresses}
        kept = {}
        for address, _, deed, topic, text in log:
            if deed == "leave" and topic in followed[address]:
                followed[address].remove(topic)
            elif deed == "follow" and topic not in followed[address]:
                followed[address].append(topic)
                for name in sorted(kept):
                    if fits_topic(pattern_parts(topic), topic_parts(name)):
                        found[address].append((name, kept[name]))
            elif deed in ("publish", "keep"):
                for one in addresses:
                    if any(fits_topic(pattern_parts(pattern), topic_parts(topic)) for pattern in followed[one]):
                        found[one].append((topic, text))
                if deed == "keep":
                    kept[topic] = text
        return found

    def test_wishes_and_news_come_once_and_in_order_over_bad_links(self):
        for seed in range(40):
            chance = random.Random(seed)
            net = Network()
            hosts = [net.add_host(name) for name in "abcd"[:chance.randrange(2, 5)]]
            for one, other in zip(hosts, hosts[1:] + hosts[:1]):
                if len(hosts) > 2 or one.address < other.address:
                    net.add_link(one.name, other.name, chance.randrange(20, 100))
            broker = Broker(hosts[0])
            followers = {host.address: Follower(host, 1) for host in hosts[1:]}
            for one in [broker] + list(followers.values()):
                one.host.runs.append(one)
            wished = {address: [] for address in followers}
            for number in range(chance.randrange(100, 900)):
                if chance.random() < 0.06:
                    address = chance.choice(sorted(followers))
                    wish = self.drawn_wish(chance, number)
                    wished[address].append((address, followers[address].wish(*wish)) + wish)
                net.act(chance.randrange(10 ** 9))
            net.settle(lambda: broker.is_done() and all(one.is_done() for one in followers.values()))
            for address, rows in wished.items():
                self.assertEqual([row for row in broker.log if row[0] == address], rows, seed)
            found = self.expected(broker.log, sorted(followers))
            self.assertEqual({address: one.news_read for address, one in followers.items()}, found, seed)

    def test_a_host_with_a_broker_and_a_follower_of_another_one(self):
        net = Network()
        hosts = [net.add_host(name) for name in "ab"]
        net.add_link("a", "b")
        brokers = [Broker(host) for host in hosts]
        followers = [Follower(hosts[0], 2), Follower(hosts[1], 1)]
        for one in brokers + followers:
            one.host.runs.append(one)
        followers[0].wish("follow", "#")
        followers[0].wish("publish", "a", "one")
        followers[1].wish("publish", "b", "two")
        net.settle(lambda: all(one.is_done() for one in brokers + followers))
        self.assertEqual([one.news_read for one in followers], [[("a", "one")], []])
        self.assertEqual([len(broker.log) for broker in brokers], [1, 2])


if __name__ == "__main__":
    unittest.main()
