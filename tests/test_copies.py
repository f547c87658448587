import random
import unittest

from wirestack.copies import CopyStore, ring_of, same_copies
from wirestack.counts import knows, merged, seen_by
from wirestack.errors import StoreError
from wirestack.network import Network
from wirestack.ring import Ring


class StoreCase(unittest.TestCase):
    def build(self, hosts=4, **told):
        """Return stores on hosts that hang on the first one, all in one ring."""
        self.net = Network()
        hosts = [self.net.add_host(f"h{number}") for number in range(1, hosts + 1)]
        for host in hosts[1:]:
            self.net.add_link("h1", host.name)
        ring = Ring([host.address for host in hosts])
        self.stores = [CopyStore(host, ring, **told) for host in hosts]
        for host, store in zip(hosts, self.stores):
            host.runs.append(store)
        self.go(12)
        return self.stores

    def go(self, rounds):
        for _ in range(rounds):
            self.net.round()

    def store(self, address):
        return self.stores[address - 1]

    def key_with(self, *holders):
        """Return a key that these hosts keep."""
        for number in range(5000):
            if set(holders) == set(self.stores[0].holders(f"key{number}")):
                return f"key{number}"
        self.fail("no such key")

    def cut(self, *addresses):
        """Let the links of hosts but the first go down."""
        for link in self.net.links:
            if link.second in [f"h{address}" for address in addresses]:
                link.set_up(False)

    def mend(self):
        for link in self.net.links:
            link.set_up(True)

    def keep_ways(self):
        """Let all ways stay known, though links are down."""
        for store in self.stores:
            host = store.host
            if host.address == 1:
                for other in self.stores[1:]:
                    host.routes.hear(other.host.address, ((other.host.address, 0),))
            else:
                host.routes.hear(1, tuple([(other.host.address, 0 if other.host.address == 1 else 1)
                                           for other in self.stores if other is not store]))

    def settle(self):
        self.net.settle(lambda: all(store.is_calm() for store in self.stores))

    def written(self, store, key, text, seen=()):
        """Write and wait; return the siblings of the event."""
        store.write(key, text, seen)
        self.settle()
        return store.events[-1][5]

    def told(self, store, key):
        """Read and wait; return the siblings of the event."""
        store.read(key)
        self.settle()
        return store.events[-1][5]

    def texts(self, siblings):
        return [text for _, text in siblings]


class BuildTest(StoreCase):
    def refused(self, many_hosts, *told):
        net = Network()
        host = net.add_host("a")
        with self.assertRaises(StoreError):
            CopyStore(host, Ring(range(1, many_hosts + 1)), *told)

    def test_fields(self):
        net = Network()
        host = net.add_host("a")
        store = CopyStore(host, Ring((1, 2, 3)))
        self.assertIs(store.host, host)
        self.assertEqual((store.rows, store.events, host.runs), ({}, [], []))
        self.assertTrue(store.is_calm())

    def test_reads_writes_and_many_that_do_not_go_together(self):
        for told in ((3, 0, 3), (3, 3, 0), (3, 4, 1), (3, 1, 4), (3, -1, 3), (0, 0, 0), (3, 1, 2), (3, 2, 1), (1, 0, 1), (5, 3, 2)):
            self.refused(5, *told)
        for told in ((3, 2, 2), (3, 1, 3), (3, 3, 1), (3, 3, 3), (1, 1, 1), (5, 3, 3), (2, 1, 2), (4, 2, 3)):
            CopyStore(Network().add_host("a"), Ring(range(1, 6)), *told)

    def test_rings_of_two_eight_and_nine_hosts(self):
        self.refused(2)
        self.refused(9)
        self.refused(9, 1, 1, 1)
        self.refused(0, 1, 1, 1)
        CopyStore(Network().add_host("a"), Ring((1, 2)), 2, 1, 2)
        CopyStore(Network().add_host("a"), Ring((1, 2, 3)))
        CopyStore(Network().add_host("a"), Ring(range(1, 9)))
        CopyStore(Network().add_host("a"), Ring(range(1, 9)), 8, 4, 5)

    def test_holders(self):
        stores = self.build(5)
        for key in ("", "a", "some key"):
            self.assertEqual(stores[0].holders(key), Ring(range(1, 6)).holders(key, 3))
        stores = self.build(5, many=2, reads=1, writes=2)
        self.assertEqual(len(stores[0].holders("a")), 2)

    def test_ring_of_and_same_copies(self):
        stores = self.build(4)
        self.assertEqual(ring_of(stores).rows, Ring((1, 2, 3, 4)).rows)
        self.assertEqual(ring_of([store.host for store in stores]).rows, Ring((1, 2, 3, 4)).rows)
        self.assertTrue(same_copies(stores, "a"))
        self.assertTrue(same_copies([], "a"))
        key = self.key_with(1, 2, 3)
        stores[0].rows[key] = ((((1, 1),), "x"),)
        self.assertFalse(same_copies(stores, key))
        for store in stores[1:3]:
            store.rows[key] = ((((1, 1),), "x"),)
        self.assertTrue(same_copies(stores, key))
        stores[2].rows[key] = ((((1, 1),), "y"),)
        self.assertFalse(same_copies(stores, key))
        self.assertTrue(same_copies(stores[:2], key))


class DeedTest(StoreCase):
    def test_writes_and_reads_at_holders_and_at_others(self):
        stores = self.build(4)
        key = self.key_with(1, 2, 3)
        for number, store in enumerate(stores):
            siblings = self.written(store, key, f"text{number}", seen_by(stores[0].siblings(key)))
            self.assertEqual(self.texts(siblings), [f"text{number}"])
            for reader in stores:
                self.assertEqual(self.told(reader, key), siblings)
            self.assertEqual([one.siblings(key) for one in stores], [siblings] * 3 + [()])
        self.assertEqual(stores[3].rows, {})

    def test_deeds_have_numbers_and_events_tell_them(self):
        stores = self.build(4)
        store = stores[3]
        key = self.key_with(1, 2, 3)
        begin = store.host.clock
        numbers = [store.write(key, "x"), store.read(key), store.read("other")]
        self.assertEqual(len(set(numbers)), 3)
        self.assertEqual(store.events, [])
        self.assertFalse(store.is_calm())
        self.settle()
        events = sorted(store.events)
        self.assertEqual([event[:4] for event in events],
                         [(numbers[0], "write", key, begin), (numbers[1], "read", key, begin), (numbers[2], "read", "other", begin)])
        self.assertTrue(all(begin < event[4] <= store.host.clock for event in events))
        self.assertEqual(events[0][5], ((((4, 1),), "x"),))
        self.assertEqual(events[2][5], ())
        self.assertTrue(store.is_calm())

    def test_a_holder_that_asks_itself_answers_at_once(self):
        stores = self.build(2, many=2, reads=1, writes=2)
        stores[0].rows["k"] = ((((1, 1),), "x"),)
        stores[0].read("k")
        clock = stores[0].host.clock
        self.assertEqual(stores[0].events, [(1, "read", "k", clock, clock, ((((1, 1),), "x"),))])
        stores[0].write("k", "y")
        self.assertEqual((len(stores[0].events), self.texts(stores[0].siblings("k"))), (1, ["x"]))
        stores[0].write("k", "z", ((1, 1),))
        self.assertEqual((len(stores[0].events), self.texts(stores[0].siblings("k"))), (1, ["z"]))

    def test_one_holder_alone(self):
        stores = self.build(2, many=1, reads=1, writes=1)
        key = next(key for key in "abcdefghij" if stores[0].holders(key) == (1,))
        stores[0].write(key, "x")
        self.assertTrue(stores[0].is_calm())
        stores[0].read(key)
        self.assertEqual([event[1] for event in stores[0].events], ["write", "read"])
        self.assertEqual(self.texts(stores[0].events[1][5]), ["x"])
        self.assertEqual(self.texts(self.told(stores[1], key)), ["x"])

    def test_an_event_comes_when_enough_have_answered(self):
        for reads, writes, down in ((2, 2, 1), (1, 3, 0), (3, 1, 2)):
            stores = self.build(5, reads=reads, writes=writes)
            key = self.key_with(3, 4, 5)
            self.cut(*[3, 4, 5][:down])
            stores[1].write(key, "x")
            for _ in range(8):
                self.keep_ways()
                self.go(1)
            self.assertEqual([event[1] for event in stores[1].events], ["write"])
            self.assertEqual(stores[1].is_calm(), down == 0)

    def test_no_event_while_too_few_have_answered(self):
        stores = self.build(5)
        key = self.key_with(3, 4, 5)
        self.cut(3, 4)
        stores[1].write(key, "x")
        stores[1].read(key)
        self.go(60)
        self.assertEqual((stores[1].events, self.texts(stores[4].siblings(key))), ([], ["x"]))
        self.mend()
        self.settle()
        self.assertEqual(sorted(event[1] for event in stores[1].events), ["read", "write"])

    def test_a_read_with_two_and_with_all_holders_answering(self):
        stores = self.build(5)
        key = self.key_with(3, 4, 5)
        stores[2].rows[key] = ((((1, 1),), "x"),)
        stores[3].rows[key] = ((((1, 2),), "y"),)
        self.cut(5)
        stores[1].read(key)
        for _ in range(6):
            self.keep_ways()
            self.go(1)
        self.assertEqual(self.texts(stores[1].events[0][5]), ["y"])
        self.assertFalse(stores[1].is_calm())
        self.mend()
        self.settle()
        self.assertEqual(len(stores[1].events), 1)


class WriteTest(StoreCase):
    def test_a_write_that_has_seen_siblings_replaces_them(self):
        stores = self.build(4)
        key = self.key_with(1, 2, 3)
        for store in stores[:3]:
            store.write(key, f"from{store.host.address}")
        self.settle()
        siblings = self.told(stores[3], key)
        self.assertEqual(sorted(self.texts(siblings)), ["from1", "from2", "from3"])
        self.assertEqual(siblings, merged(siblings))
        self.written(stores[3], key, "all", seen_by(siblings))
        self.assertEqual(self.texts(self.told(stores[0], key)), ["all"])
        self.assertTrue(same_copies(stores, key))

    def test_one_that_has_not_stands_beside_them(self):
        stores = self.build(4)
        key = self.key_with(1, 2, 3)
        first = self.written(stores[0], key, "a")
        self.written(stores[1], key, "b")
        self.assertEqual(sorted(self.texts(self.told(stores[2], key))), ["a", "b"])
        self.written(stores[3], key, "c", seen_by(first))
        self.assertEqual(sorted(self.texts(self.told(stores[2], key))), ["b", "c"])

    def test_a_host_has_seen_what_it_wrote_itself(self):
        stores = self.build(4)
        key = self.key_with(1, 2, 3)
        for address in (1, 4):
            self.written(self.store(address), key, f"a{address}", seen_by(self.told(stores[2], key)))
            self.written(self.store(address), key, f"b{address}")
            self.assertEqual(self.texts(self.told(stores[1], key)), [f"b{address}"])
        stores[0].write(key, "c")
        stores[0].write(key, "d")
        self.settle()
        self.assertEqual(sorted(self.texts(self.told(stores[1], key))), ["b4", "d"])

    def test_keys_stand_for_themselves(self):
        stores = self.build(4)
        self.written(stores[0], "a", "x")
        self.written(stores[0], "b", "y")
        self.assertEqual((self.texts(self.told(stores[3], "a")), self.texts(self.told(stores[3], "b"))), (["x"], ["y"]))
        self.assertEqual(stores[0].events[1][5], ((((1, 1),), "y"),))

    def test_none_drops_the_key(self):
        stores = self.build(4)
        key = self.key_with(1, 2, 3)
        siblings = self.written(stores[0], key, "x")
        self.assertEqual(self.texts(self.written(stores[1], key, None, seen_by(siblings))), [None])
        self.assertEqual(self.texts(self.told(stores[3], key)), [None])
        self.written(stores[2], key, "y", seen_by(self.told(stores[3], key)))
        self.assertEqual(self.texts(self.told(stores[3], key)), ["y"])

    def test_an_empty_text_is_one(self):
        stores = self.build(4)
        self.written(stores[0], "k", "")
        self.assertEqual(self.texts(self.told(stores[1], "k")), [""])

    def test_keys_and_texts_of_100_and_101_characters(self):
        stores = self.build(4)
        self.written(stores[0], "k" * 100, "t" * 100)
        self.assertEqual(self.texts(self.told(stores[3], "k" * 100)), ["t" * 100])
        many = stores[0].write("k", "x")
        for deed in (lambda: stores[0].read("k" * 101), lambda: stores[0].write("k" * 101, "x"), lambda: stores[0].write("k", "t" * 101),
                     lambda: stores[0].read("\t"), lambda: stores[0].write("\t", "x"), lambda: stores[0].write("k", "{0}\r"),
                     lambda: stores[0].write("k", chr(37))):
            with self.assertRaises(StoreError):
                deed()
        self.assertEqual(stores[0].read("k"), many + 1)
        self.settle()
        # What was refused changed nothing, so the next write is the second one of the key.
        self.assertEqual(self.written(stores[0], "k", "y")[0][0], ((1, 2),))


class AgainTest(StoreCase):
    def test_messages_go_again_each_8_ticks_until_they_are_answered(self):
        stores = self.build(4)
        key = self.key_with(2, 3, 4)
        self.go(3)
        self.cut(2, 3, 4)
        host = stores[0].host
        begin = host.clock
        sent = []
        host.send = lambda target, kind, data: sent.append((host.clock - begin, target))
        stores[0].write(key, "x")
        for _ in range(25):
            host.tick()
        times = {2: [], 3: [], 4: []}
        for time, target in sent:
            times[target].append(time)
        self.assertEqual(times, {2: [0, 8, 16, 24], 3: [0, 8, 16, 24], 4: [0, 8, 16, 24]})

    def test_also_when_the_deed_is_done(self):
        stores = self.build(4)
        key = self.key_with(2, 3, 4)
        self.cut(4)
        stores[0].write(key, "x")
        for _ in range(6):
            self.keep_ways()
            self.go(1)
        self.assertEqual((len(stores[0].events), stores[0].is_calm()), (1, False))
        self.go(50)
        self.mend()
        self.settle()
        self.assertEqual((len(stores[0].events), self.texts(stores[3].siblings(key))), (1, ["x"]))

    def test_an_answer_that_comes_twice_counts_once(self):
        stores = self.build(4, reads=3, writes=3)
        key = self.key_with(2, 3, 4)
        number = stores[0].read(key)
        for _ in range(3):
            stores[0].hear(2, number, ())
            stores[0].hear(3, number, ())
        self.assertEqual(stores[0].events, [])
        stores[0].hear(1, number, ())
        stores[0].hear(9, number, ())
        stores[0].hear(4, number + 5, ())
        self.assertEqual(stores[0].events, [])
        stores[0].hear(4, number, ())
        self.assertEqual((len(stores[0].events), stores[0].is_calm()), (1, True))
        stores[0].hear(4, number, ())
        self.assertEqual(len(stores[0].events), 1)

    def test_bytes_that_are_no_message_are_left_out(self):
        stores = self.build(4)
        caught = []
        take = stores[1].take
        stores[1].take = lambda source, data: caught.append((source, data))
        key = self.key_with(2, 3, 4)
        stores[0].write(key, "x")
        self.go(2)
        source, data = caught[0]
        for place in range(len(data)):
            take(source, data[:place])
        take(source, data + (0,))
        take(source, (77,) + data[1:])
        take(source, ())
        self.assertEqual(stores[1].rows, {})
        take(source, data)
        take(source, data)
        self.assertEqual(self.texts(stores[1].siblings(key)), ["x"])


class LackTest(StoreCase):
    def test_those_that_lacked_something_are_told_behind_a_read(self):
        stores = self.build(4)
        key = self.key_with(2, 3, 4)
        one, other = (((1, 1),), "x"), (((2, 1),), "y")
        stores[1].rows[key] = (one,)
        stores[2].rows[key] = (one, other)
        stores[0].read(key)
        self.settle()
        self.go(3)
        self.assertEqual([store.siblings(key) for store in stores], [(), (one, other), (one, other), (one, other)])

    def test_a_holder_that_reads_lacks_nothing_behind_it(self):
        stores = self.build(4)
        key = self.key_with(1, 2, 3)
        one = (((1, 1),), "x")
        stores[1].rows[key] = (one,)
        stores[0].read(key)
        self.settle()
        self.go(3)
        self.assertEqual([store.siblings(key) for store in stores], [(one,), (one,), (one,), ()])

    def test_nobody_is_told_before_all_have_answered(self):
        stores = self.build(5)
        key = self.key_with(3, 4, 5)
        stores[2].rows[key] = ((((1, 1),), "x"),)
        self.cut(5)
        stores[1].read(key)
        self.go(5)
        self.assertEqual((len(stores[1].events), stores[3].siblings(key)), (1, ()))

    def sent_by(self, *stores):
        """Let stores write down whom they send messages; return the row."""
        found = []
        for store in stores:
            def sending(target, kind, data, host=store.host, send=store.host.send):
                if kind > 3:
                    found.append((host.address, target))
                send(target, kind, data)

            store.host.send = sending
        return found

    def messages(self, deed):
        """Return whom messages are sent by a deed and what it leads to, ascending as (sender, target)."""
        for store in self.stores:
            # From here on no turn comes soon.
            store.host.clock = 991
        sent = self.sent_by(*self.stores)
        deed()
        self.settle()
        self.go(5)
        for store in self.stores:
            del store.host.send
        return sorted(sent)

    def test_no_more_messages_than_needed(self):
        stores = self.build(4)
        key = self.key_with(1, 2, 3)
        self.written(stores[1], key, "y")
        asked, answers = [(4, 1), (4, 2), (4, 3)], [(1, 4), (2, 4), (3, 4)]
        self.assertEqual(self.messages(lambda: stores[3].write(key, "x")), sorted(asked + answers))
        # The holders know both texts, so nobody has to be told behind a read.
        self.assertEqual(self.messages(lambda: stores[3].read(key)), sorted(asked + answers))
        # A holder asks the two others alone.
        self.assertEqual(self.messages(lambda: stores[0].read(key)), [(1, 2), (1, 3), (2, 1), (3, 1)])
        # One that lacks something is told, and does not answer.
        del stores[2].rows[key]
        self.assertEqual(self.messages(lambda: stores[3].read(key)), sorted(asked + answers + [(4, 3)]))

    def turns(self, store, ticks):
        """Return the (clock, target) of what a store sends."""
        sent = []
        host = store.host
        host.send = lambda target, kind, data: sent.append((host.clock, target)) if kind > 3 else None
        for _ in range(ticks):
            host.tick()
        del host.send
        return sent

    def test_turns_each_30_ticks(self):
        stores = self.build(4)
        key = self.key_with(1, 2, 3)
        stores[0].rows[key] = ((((1, 1),), "x"),)
        sent = self.turns(stores[0], 100)
        self.assertEqual(sorted(sent), [(30, 2), (30, 3), (60, 2), (60, 3), (90, 2), (90, 3)])

    def test_turns_go_from_key_to_key(self):
        stores = self.build(4)
        keys = []
        for number in range(300):
            if 1 in stores[0].holders(f"k{number}"):
                keys.append(f"k{number}")
        keys = keys[:3]
        for key in keys:
            stores[0].rows[key] = ((((1, 1),), key),)
        for store in stores:
            store.host.clock = 0
        self.go(100)
        for key in keys:
            self.assertTrue(same_copies(stores, key))
            self.assertEqual(self.texts(stores[0].siblings(key)), [key])

    def test_a_turn_tells_one_key_alone(self):
        stores = self.build(3)
        for key in ("a", "b"):
            stores[0].rows[key] = ((((1, 1),), key),)
        stores[0].host.clock = 29
        self.go(1)
        self.go(2)
        self.assertEqual(sorted([len(store.rows) for store in stores]), [1, 1, 2])

    def test_stores_without_keys_send_nothing(self):
        stores = self.build(3)
        self.assertEqual(self.turns(stores[0], 100), [])


class ChanceTest(StoreCase):
    """Point 1: copies come to the same, no write that was done is lost, and a read that is asked for later knows it."""

    def go_badly(self, seed):
        chance = random.Random(seed)
        self.net = Network()
        many_hosts = chance.randint(2, 8)
        hosts = [self.net.add_host(f"h{number}") for number in range(many_hosts)]
        for number in range(1, many_hosts):
            self.net.add_link(f"h{chance.randrange(number)}", f"h{number}", chance.choice((20, 60, 500)))
        many = min(many_hosts, chance.choice((1, 2, 3, 3, 5)))
        reads = chance.randint(1, many)
        writes = chance.randint(max(1, many + 1 - reads), many)
        ring = Ring([host.address for host in hosts])
        self.stores = [CopyStore(host, ring, many, reads, writes) for host in hosts]
        for host, store in zip(hosts, self.stores):
            host.runs.append(store)
        keys = ("a", "b", "the key")
        for step in range(3000):
            self.net.act(chance.randrange(10 ** 12))
            if chance.random() < 0.02:
                store, key = chance.choice(self.stores), chance.choice(keys)
                seen = [seen_by(event[5]) for event in store.events if event[1] == "read" and event[2] == key]
                if chance.random() < 0.5:
                    store.read(key)
                else:
                    store.write(key, chance.choice((f"t{step}", None, "x" * 100)), chance.choice(((seen + [()])[0], ())))
        self.net.settle(lambda: all(store.is_calm() for store in self.stores)
                        and all(same_copies(self.stores, key) for key in keys))
        events = [event for store in self.stores for event in store.events]
        for event in events:
            if event[1] == "write":
                counts = event[5][0][0]
                for other in events:
                    if other[1:3] == ("read", event[2]) and other[3] > event[4]:
                        self.assertTrue(knows(seen_by(other[5]), counts))
                for store in self.stores:
                    if store.host.address in store.holders(event[2]):
                        self.assertTrue(knows(seen_by(store.siblings(event[2])), counts))
        return len(events)

    def test_links_that_lose_and_go_down(self):
        self.assertGreater(sum([self.go_badly(seed) for seed in range(25)]), 500)


if __name__ == "__main__":
    unittest.main()
