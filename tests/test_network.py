import copy
import random
import unittest

from wirestack.errors import HostError, RouteError
from wirestack.frames import frame_bytes
from wirestack.hosts import Host
from wirestack.links import Link
from wirestack.network import Network
from wirestack.packets import Packet, packet_bytes
from wirestack.rules import Guard, compiled, parse_rules

TICKS, UP_OR_DOWN = 0, 1


def state(net):
    """Return what can be seen of a network."""
    hosts = [(host.name, host.clock, host.routes.shown(), host.damaged, host.dropped) for host in net.hosts.values()]
    links = [(link.up, list(link.on_way), link.lost, link.arrived) for link in net.links]
    return (net.time, hosts, links)


class NetworkCase(unittest.TestCase):
    def build(self, *rows):
        self.net = Network()
        for name in sorted(set("".join(rows))):
            self.net.add_host(name)
        return [self.net.add_link(ends[0], ends[1]) for ends in rows]

    def clocks(self):
        return [host.clock for host in self.net.hosts.values()]

    def watch(self):
        """Let the hosts write down what they receive instead of taking it."""
        found = []
        for host in self.net.hosts.values():
            host.receive = lambda neighbour, data, name=host.name: found.append((name, neighbour, data))
        return found


class BuildTest(NetworkCase):
    def test_fields(self):
        net = Network()
        self.assertEqual((net.hosts, net.links, net.time), ({}, [], 0))

    def test_hosts_have_the_numbers_from_1_on(self):
        net = Network()
        for number, name in enumerate(("zoe", "ann", "bob"), 1):
            host = net.add_host(name)
            self.assertIsInstance(host, Host)
            self.assertEqual((host.name, host.address), (name, number))
        self.assertEqual(list(net.hosts), ["zoe", "ann", "bob"])

    def test_a_host_that_is_there(self):
        net = Network()
        host = net.add_host("a")
        with self.assertRaises(HostError):
            net.add_host("a")
        self.assertEqual(net.hosts, {"a": host})
        self.assertEqual(net.add_host("b").address, 2)

    def test_30_hosts_and_one_more(self):
        net = Network()
        for number in range(30):
            self.assertEqual(net.add_host(f"h{number}").address, number + 1)
        with self.assertRaises(HostError):
            net.add_host("more")
        self.assertEqual(len(net.hosts), 30)

    def test_links(self):
        net = Network()
        for name in "abc":
            net.add_host(name)
        link = net.add_link("a", "b")
        self.assertIsInstance(link, Link)
        self.assertEqual((link.first, link.second, link.room, link.up), ("a", "b", 60, True))
        other = net.add_link("c", "a", 20)
        self.assertEqual((other.first, other.second, other.room), ("c", "a", 20))
        self.assertEqual(net.links, [link, other])

    def test_links_that_cannot_be(self):
        net = Network()
        for name in "abc":
            net.add_host(name)
        net.add_link("a", "b")
        for first, second, room, error in (("a", "b", 60, HostError), ("b", "a", 60, HostError), ("b", "a", 10, HostError),
                                           ("a", "a", 60, RouteError), ("a", "c", 19, RouteError),
                                           ("a", "x", 60, HostError), ("x", "a", 60, HostError)):
            with self.assertRaises(error):
                net.add_link(first, second, room)
        self.assertEqual(len(net.links), 1)
        net.add_link("a", "c")
        net.add_link("b", "c")


class ActTest(NetworkCase):
    def test_ticks_of_all_hosts_in_order_of_their_names(self):
        net = Network()
        order = []
        for name in ("b", "c", "a"):
            net.add_host(name)

            class Run:
                def __init__(self, name):
                    self.name = name

                def tick(self):
                    order.append(self.name)

            net.hosts[name].runs.append(Run(name))
        net.act(0)
        self.assertEqual(order, ["a", "b", "c"])
        self.assertEqual([host.clock for host in net.hosts.values()], [1, 1, 1])
        net.act(8 * 12345)
        self.assertEqual([host.clock for host in net.hosts.values()], [2, 2, 2])
        net.round()
        self.assertEqual(order, ["a", "b", "c"] * 3)

    def test_without_links_only_time_passes(self):
        self.net = Network()
        self.net.add_host("a")
        for choice in range(40):
            self.net.act(choice)
        self.assertEqual(self.clocks(), [5])
        Network().act(5)
        Network().act(0)

    def test_a_link_goes_down_and_up(self):
        (link,) = self.build("ab")
        link.send("a", (1, 2))
        for rest, up in ((1, True), (7, True), (8, False), (9, False), (12, False), (16, True), (0, False), (0, True)):
            self.net.act(UP_OR_DOWN + 8 * rest)
            self.assertEqual(link.up, up, rest)
        self.assertEqual((link.on_way, link.lost), ([], 1))
        self.assertEqual(self.clocks(), [0, 0])

    def test_the_link_and_the_choice(self):
        links = self.build("ab", "bc", "ac")
        for number, link in enumerate(links):
            for rest in (0, 8, 80):
                before = [one.up for one in links]
                self.net.act(UP_OR_DOWN + 8 * (number + 3 * rest))
                after = [one.up for one in links]
                self.assertEqual([place for place in range(3) if before[place] != after[place]], [number])
            self.net.act(UP_OR_DOWN + 8 * (number + 3 * 4))
            self.assertEqual([one.up for one in links], after)

    def test_all_else_is_what_the_links_act_does(self):
        chance = random.Random(2)
        for _ in range(400):
            links = self.build("ab", "bc", "ac")
            found = self.watch()
            number = chance.randrange(3)
            link = links[number]
            for _ in range(chance.randrange(5)):
                link.send(chance.choice((link.first, link.second)), tuple([chance.randrange(120) for _ in range(6)]))
            other = copy.deepcopy(link)
            rest = chance.randrange(10 ** 6)
            self.net.act(chance.randrange(2, 8) + 8 * (number + 3 * rest))
            arrived = other.act(rest)
            self.assertEqual((link.on_way, link.lost, link.arrived), (other.on_way, other.lost, other.arrived))
            if arrived is None:
                self.assertEqual(found, [])
            else:
                neighbour = self.net.hosts[link.other(arrived[0])].address
                self.assertEqual(found, [(arrived[0], neighbour, arrived[1])])
            self.assertEqual(self.clocks(), [0, 0, 0])

    def test_events_of_one_network_come_again(self):
        chance = random.Random(3)
        choices = [chance.randrange(10 ** 9) for _ in range(500)]
        seen = []
        for _ in range(2):
            self.build("ab", "bc", "ac")
            for choice in choices:
                self.net.act(choice)
            seen.append(state(self.net))
        self.assertEqual(seen[0], seen[1])


class RoundTest(NetworkCase):
    def test_what_was_on_the_way_arrives_link_by_link_and_then_time_passes(self):
        links = self.build("bc", "ab")
        found = self.watch()
        links[1].send("a", (1,))
        links[1].send("b", (2,))
        links[0].send("c", (3,))
        links[1].send("a", (4,))
        self.net.round()
        self.assertEqual(found, [("b", 3, (3,)), ("b", 1, (1,)), ("a", 2, (2,)), ("b", 1, (4,))])
        self.assertEqual((self.clocks(), self.net.time), ([1, 1, 1], 1))

    def test_what_is_sent_in_a_round_waits_for_the_next_one(self):
        links = self.build("ab", "bc", "cd")
        for _ in range(8):
            self.net.round()
        found = []
        self.net.hosts["d"].endpoint.receive = lambda source, data: found.append(data)
        self.net.hosts["a"].send(4, 1, (9,))
        for rounds in (0, 1, 2):
            self.assertEqual(found, [], rounds)
            self.net.round()
        self.assertEqual(found, [(9,)])
        self.assertTrue(all(link.up for link in links))

    def test_time_counts_rounds(self):
        self.build("ab")
        for _ in range(5):
            self.net.round()
        self.assertEqual(self.net.time, 5)
        self.net.act(0)
        self.assertEqual(self.net.time, 6)
        self.net.act(2)
        self.assertEqual(self.net.time, 6)

    def test_all_hosts_find_each_other(self):
        self.build("ab", "bc", "cd", "de", "ea")
        for _ in range(12):
            self.net.round()
        for host in self.net.hosts.values():
            self.assertEqual([address for address, _, _ in host.routes.shown()],
                             [address for address in range(1, 6) if address != host.address])
            self.assertTrue(all(distance <= 2 for _, _, distance in host.routes.shown()))


class SettleTest(NetworkCase):
    def test_settle_lets_all_links_go_up(self):
        links = self.build("ab", "bc")
        for link in links:
            link.set_up(False)
        self.net.settle(lambda: True)
        self.assertEqual(([link.up for link in links], self.net.time), ([True, True], 0))

    def test_settle_ends_as_soon_as_it_is_done(self):
        self.build("ab")
        self.assertIsNone(self.net.settle(lambda: self.net.time >= 7))
        self.assertEqual((self.net.time, self.clocks()), (7, [7, 7]))

    def test_at_most_6000_rounds(self):
        self.net = Network()
        self.net.settle(lambda: self.net.time == 6000)
        self.assertEqual(self.net.time, 6000)
        self.net = Network()
        with self.assertRaises(HostError):
            self.net.settle(lambda: self.net.time > 6000)
        self.assertEqual(self.net.time, 6000)


class StreamTest(NetworkCase):
    """Point 1: what is read of a stream is a beginning of what was sent."""

    def run_streams(self, seed, guard=None):
        chance = random.Random(seed)
        self.build("ab", "bc", "bd", "cd")
        if guard is not None:
            self.net.hosts["b"].guard_by(guard)
        self.net.hosts["d"].endpoint.listen()
        stream = self.net.hosts["a"].endpoint.connect(4)
        sent = {end: tuple([chance.randrange(256) for _ in range(chance.randrange(1500))]) for end in "ad"}
        ends = {"a": stream}
        got = {"a": (), "d": ()}
        stream.send(sent["a"][:700])

        def look():
            if "d" not in ends:
                other = self.net.hosts["d"].endpoint.accept()
                if other is not None:
                    ends["d"] = other
                    other.send(sent["d"])
                    other.close()
            for end, one in ends.items():
                got[end] = got[end] + one.read(chance.randrange(300))
            self.assertEqual(got["d"], sent["a"][:len(got["d"])])
            self.assertEqual(got["a"], sent["d"][:len(got["a"])])
            for end, other in (("a", "d"), ("d", "a")):
                if end in ends and ends[end].is_over():
                    self.assertEqual(got[end], sent[other])
                if end in ends and ends[end].is_done():
                    # What the other side heard, it can read.
                    rest = ends[other].read()
                    got[other] = got[other] + rest
                    self.assertEqual(got[other], sent[end])
            over = [one.state in ("failed", "closed") for one in ends.values()]
            return all(over) and (len(ends) == 2 or stream.state == "failed")

        for step in range(2500):
            if step == 300 and stream.state != "failed":
                stream.send(sent["a"][700:])
                stream.close()
            self.net.act(chance.randrange(10 ** 12))
            look()
        if stream.state != "failed" and not stream.closing:
            stream.close()
        self.net.settle(lambda: look() or ("d" in ends and "failed" in (ends["a"].state, ends["d"].state)))
        return [one.state for one in ends.values()]

    def test_streams_both_ways_over_bad_links(self):
        states = [tuple(self.run_streams(seed)) for seed in range(25)]
        self.assertIn(("closed", "closed"), states)

    def test_a_guard_in_between_counts(self):
        guard = Guard(compiled(parse_rules("accept from 1 to 4; accept from 4 to 1; drop from 3 to 2 most 5; accept")))
        self.run_streams(3, guard)
        self.assertGreater(guard.accepted, 20)
        self.assertEqual((guard.dropped, guard.cells[2]), (5, 5))

    def test_a_guard_that_drops_all_lets_streams_fail(self):
        self.build("ab", "bc")
        for _ in range(10):
            self.net.round()
        guard = Guard(compiled(parse_rules("drop from 1 to 3; accept")))
        self.net.hosts["b"].guard_by(guard)
        self.net.hosts["c"].endpoint.listen()
        stream = self.net.hosts["a"].endpoint.connect(3)
        stream.send((1, 2))
        self.net.settle(lambda: stream.state == "failed")
        self.assertEqual((stream.fault, guard.dropped), ("timed out", 11))
        self.assertIsNone(self.net.hosts["c"].endpoint.accept())

    def test_damaged_packets_are_counted_once(self):
        (link,) = self.build("ab")
        link.send("a", frame_bytes(packet_bytes(Packet(1, 2, 16, 1, 0, 1, (1,)))[:-1]))
        self.net.round()
        self.assertEqual(self.net.hosts["b"].damaged, 1)


if __name__ == "__main__":
    unittest.main()
