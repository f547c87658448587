import unittest

from wirestack.errors import HostError
from wirestack.frames import payloads_in
from wirestack.names import NameAsker, NameTable, check_name
from wirestack.network import Network
from wirestack.packets import read_packet


class NameTest(unittest.TestCase):
    def test_names(self):
        for name in ("a", "0", "-", ".", "server", "a-b.c9", "x" * 40):
            self.assertIsNone(check_name(name))
        for name in ("", "x" * 41, "A", "a b", "a_b", "a/b", "a\n", "@a"):
            with self.assertRaises(HostError):
                check_name(name)


class NameCase(unittest.TestCase):
    """A table on host b (address 2) and an asker on host a, with one link between them."""

    def setUp(self):
        self.net = Network()
        self.a = self.net.add_host("a")
        self.b = self.net.add_host("b")
        self.link = self.net.add_link("a", "b")
        self.table = NameTable(self.b)
        self.asker = NameAsker(self.a, 2)
        self.go(3)

    def go(self, rounds=1):
        for _ in range(rounds):
            self.net.round()
            self.asker.tick()

    def look_up(self, name):
        """Ask for a name, and return what is known when the answer has come."""
        self.asker.address_of(name)
        self.go(2)
        return self.asker.address_of(name)

    def asked_now(self):
        """Return how many packets are on the way from a."""
        return len([end for end, data, _ in self.link.on_way if end == "b"])


class TableTest(NameCase):
    def test_fields(self):
        self.assertIs(self.table.host, self.b)
        self.assertEqual(self.table.rows, {})
        self.table.set_name("x", 7, 30)
        self.assertEqual(self.table.rows, {"x": (7, 30)})

    def test_times(self):
        for keep in (0, 999):
            self.table.set_name("x", 7, keep)
        for keep in (-1, 1000, 5000):
            with self.assertRaises(HostError):
                self.table.set_name("x", 8, keep)
            with self.assertRaises(HostError):
                self.table.set_name("y", 8, keep)
        self.assertEqual(self.table.rows, {"x": (7, 999)})

    def test_wrong_names(self):
        for name in ("", "X", "x" * 41):
            with self.assertRaises(HostError):
                self.table.set_name(name, 8, 5)
        self.assertEqual(self.table.rows, {})

    def test_drop_name(self):
        self.table.set_name("x", 7, 30)
        with self.assertRaises(HostError):
            self.table.drop_name("y")
        self.table.drop_name("x")
        self.assertEqual(self.table.rows, {})
        with self.assertRaises(HostError):
            self.table.drop_name("x")

    def test_bytes_that_are_no_question_are_not_answered(self):
        self.go(3)
        while self.link.next():
            pass
        for data in ((), (1,), (1, 1), (1, 1, 5, 1), (2, 1, 1, 40), (3, 1, 1, 40), (1, 1, 1, 40, 9), (1, 1, 1, 200), (0,)):
            self.table.take(1, data)
        self.assertEqual(self.link.on_way, [])


class AskerTest(NameCase):
    def test_fields(self):
        self.assertIs(self.asker.host, self.a)
        self.assertEqual((self.asker.target, self.asker.kept, self.asker.asked), (2, {}, {}))

    def test_a_name_is_asked_for_and_known(self):
        self.table.set_name("x", 7, 30)
        self.assertEqual(self.asker.address_of("x"), (False, None))
        self.assertEqual(list(self.asker.asked), ["x"])
        self.go(2)
        self.assertEqual(self.asker.address_of("x"), (True, 7))
        self.assertEqual(self.asker.asked, {})
        self.assertEqual(self.asker.kept["x"][0], 7)

    def test_questions_and_answers_are_bodies_of_class_3(self):
        while self.link.next():
            pass
        self.asker.address_of("x")
        for end in ("b", "a"):
            ((to, data, _),) = self.link.on_way
            packet = read_packet(payloads_in(data)[0])
            self.assertEqual((to, packet.body[0]), (end, 3))
            self.net.deliver(self.link, self.link.next())

    def test_an_unknown_name(self):
        self.assertEqual(self.look_up("x"), (True, None))

    def test_wrong_names(self):
        for name in ("", "X", "x" * 41):
            with self.assertRaises(HostError):
                self.asker.address_of(name)
        self.assertEqual(self.asker.asked, {})

    def known_for(self, name):
        """Return at how many clocks from the answer's coming on a name is known."""
        while not self.asker.address_of(name)[0]:
            self.go()
        many = 0
        while self.asker.address_of(name)[0]:
            many += 1
            self.a.tick()
        return many

    def test_an_answer_is_kept_as_long_as_told_from_its_coming(self):
        for keep in (2, 3, 10):
            self.table.set_name("x", 7, keep)
            self.asker.forget()
            self.asker.address_of("x")
            self.net.round()
            self.b.tick()
            came = None
            while came is None:
                arrived = self.link.next()
                self.net.deliver(self.link, arrived)
                if self.asker.asked == {}:
                    came = self.a.clock
            known = []
            for clock in range(came, came + keep + 3):
                self.assertEqual(self.a.clock, clock)
                known.append("x" in self.asker.kept and self.asker.address_of("x") == (True, 7))
                self.a.tick()
            self.assertEqual(known, [True] * keep + [False] * 3)
            self.go(60)

    def test_an_unknown_name_is_kept_for_5(self):
        self.asker.address_of("x")
        self.go(1)
        # The answer arrives at the begin of a round, ahead of the tick.
        while self.asker.asked:
            self.net.deliver(self.link, self.link.next())
        self.assertEqual(self.known_for("x"), 5)

    def test_a_name_kept_for_no_tick_is_asked_for_anew(self):
        self.table.set_name("x", 7, 0)
        self.asker.address_of("x")
        self.go(3)
        self.assertEqual(self.asker.asked, {})
        self.assertEqual(self.asker.address_of("x"), (False, None))
        self.assertEqual(list(self.asker.asked), ["x"])

    def test_a_name_that_changes_while_others_keep_it(self):
        self.table.set_name("x", 7, 20)
        self.assertEqual(self.look_up("x"), (True, 7))
        self.table.set_name("x", 8, 20)
        self.assertEqual(self.look_up("x"), (True, 7))
        self.go(20)
        self.assertEqual(self.look_up("x"), (True, 8))
        self.table.drop_name("x")
        self.assertEqual(self.look_up("x"), (True, 8))
        self.go(20)
        self.assertEqual(self.look_up("x"), (True, None))
        self.table.set_name("x", 9, 20)
        self.assertEqual(self.look_up("x"), (True, None))
        self.go(5)
        self.assertEqual(self.look_up("x"), (True, 9))

    def test_forget(self):
        self.table.set_name("x", 7, 900)
        self.look_up("x")
        self.table.set_name("x", 8, 900)
        self.asker.forget()
        self.assertEqual(self.asker.kept, {})
        self.assertEqual(self.asker.address_of("x"), (False, None))
        self.go(2)
        self.assertEqual(self.asker.address_of("x"), (True, 8))

    def test_several_names_at_a_time(self):
        for number, name in enumerate("xyz"):
            self.table.set_name(name, number, 30)
        for name in "xyz":
            self.asker.address_of(name)
        self.assertEqual(sorted(self.asker.asked), ["x", "y", "z"])
        self.go(2)
        self.assertEqual([self.asker.address_of(name) for name in "xyz"], [(True, 0), (True, 1), (True, 2)])


class AgainTest(NameCase):
    """A link that is down: what is sent is lost, and counted."""

    def setUp(self):
        super().setUp()
        self.go(6)
        self.link.set_up(False)

    def questions(self, ticks):
        """Return the clocks, counted from now on, at which a question was sent."""
        begin, found = self.a.clock, []
        for _ in range(ticks):
            self.a.tick()
            lost = self.link.lost
            self.asker.tick()
            found.extend([self.a.clock - begin] * (self.link.lost - lost))
        return found

    def test_one_question_at_a_time(self):
        lost = self.link.lost
        for _ in range(3):
            self.assertEqual(self.asker.address_of("x"), (False, None))
        self.assertEqual(self.link.lost - lost, 1)

    def test_asked_again_each_8_ticks_six_times_in_all_and_then_unknown_for_5(self):
        self.a.routes.hear(2, ((2, 0),))
        self.asker.address_of("x")
        found = []
        for _ in range(60):
            # The way is told anew, or it would be forgotten while the link is down.
            self.a.routes.hear(2, ((2, 0),))
            found.append(self.questions(1))
            if self.asker.asked == {}:
                break
        times = [place + 1 for place, row in enumerate(found) if row]
        self.assertEqual(times, [8, 16, 24, 32, 40])
        self.assertEqual(len(found), 48)
        known = []
        for _ in range(7):
            known.append(self.asker.kept["x"][1] > self.a.clock)
            self.a.tick()
        self.assertEqual(known, [True] * 5 + [False] * 2)
        self.assertEqual(self.asker.address_of("x"), (False, None))

    def test_nothing_is_asked_again_once_it_was_answered(self):
        self.link.set_up(True)
        self.table.set_name("x", 7, 500)
        self.look_up("x")
        self.link.set_up(False)
        self.assertEqual(self.questions(40), [])

    def test_a_link_that_was_down_meanwhile(self):
        self.table.set_name("x", 7, 500)
        self.asker.address_of("x")
        self.go(20)
        self.assertEqual(self.asker.address_of("x"), (False, None))
        self.link.set_up(True)
        self.go(20)
        self.assertEqual(self.asker.address_of("x"), (True, 7))


class StrayTest(NameCase):
    """Answers are caught on the link, and given to the asker by hand."""

    def answer(self, name):
        """Let a name be asked for, and return the bytes of the answer without giving them."""
        given = []
        take = self.asker.take
        self.asker.take = lambda source, data: given.append((source, data))
        self.asker.address_of(name)
        for _ in range(2):
            self.net.round()
        del self.asker.take
        self.assertEqual(self.asker.take, take)
        return given[-1]

    def test_an_answer_of_another_host_is_left_out(self):
        self.table.set_name("x", 7, 50)
        source, data = self.answer("x")
        self.asker.take(3, data)
        self.assertEqual((self.asker.kept, list(self.asker.asked)), ({}, ["x"]))
        self.asker.take(source, data)
        self.assertEqual(self.asker.address_of("x"), (True, 7))

    def test_an_answer_that_was_not_asked_for_is_left_out(self):
        self.table.set_name("x", 7, 50)
        source, data = self.answer("x")
        self.asker.take(source, data)
        kept = dict(self.asker.kept)
        self.go(4)
        self.asker.take(source, data)
        self.assertEqual(self.asker.kept, kept)
        self.asker.forget()
        self.asker.take(source, data)
        self.assertEqual(self.asker.kept, {})
        self.asker.address_of("y")
        self.asker.take(source, data)
        self.assertEqual((self.asker.kept, list(self.asker.asked)), ({}, ["y"]))

    def test_bytes_that_are_no_answer_are_left_out(self):
        self.table.set_name("x", 7, 50)
        source, data = self.answer("x")
        for place in range(len(data)):
            self.asker.take(source, data[:place])
        self.asker.take(source, data + (0,))
        self.asker.take(source, (1,) + data[1:])
        self.asker.take(source, (9,) + data[1:])
        self.asker.take(source, ())
        self.assertEqual((self.asker.kept, list(self.asker.asked)), ({}, ["x"]))

    def test_a_table_and_an_asker_on_one_host(self):
        other = NameTable(self.a)
        other.set_name("home", 1, 9)
        back = NameAsker(self.b, 1)
        self.table.set_name("x", 7, 50)
        self.assertEqual(back.address_of("home"), (False, None))
        self.assertEqual(self.look_up("x"), (True, 7))
        self.assertEqual(back.address_of("home"), (True, 1))


if __name__ == "__main__":
    unittest.main()
