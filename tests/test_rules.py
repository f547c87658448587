import random
import unittest

from wirestack.errors import FilterError
from wirestack.filters import run_filter
from wirestack.packets import Packet, packet_bytes
from wirestack.rules import CONDITIONS, Guard, Rule, compiled, decide, field_of, parse_rule, parse_rules, rules_text
from wirestack.verifier import is_safe

# From 513, to 1027, 5 hops, and two bytes more.
DATA = (2, 1, 4, 3, 5, 9, 9)


def fault(deed, *parts):
    try:
        deed(*parts)
    except FilterError as e:
        return (e.word, e.row)
    return None


def shown(text):
    return [rule.shown() for rule in parse_rules(text)]


class RuleTest(unittest.TestCase):
    def test_fields(self):
        self.assertEqual(CONDITIONS, ("from", "to", "hops", "size", "most"))
        self.assertEqual([field_of(name, DATA) for name in ("from", "to", "hops", "size")], [513, 1027, 5, 7])
        data = packet_bytes(Packet(300, 65535, 16, 1, 0, 1, (1, 2)))
        self.assertEqual([field_of(name, data) for name in ("from", "to", "hops", "size")], [300, 65535, 16, len(data)])

    def test_shown(self):
        self.assertEqual(Rule("drop", {"to": (1, 2), "from": (3, 3)}).shown(), ("drop", (("from", (3, 3)), ("to", (1, 2))), None))
        self.assertEqual(Rule("accept", {}, 0).shown(), ("accept", (), 0))
        self.assertEqual(Rule("accept", {}).word, "accept")

    def test_each_condition_with_one_number_and_with_a_span(self):
        for name, number in (("from", 513), ("to", 1027), ("hops", 5), ("size", 7)):
            for low, high, meets in ((number, number, True), (number - 1, number + 1, True), (number, number + 1, True),
                                     (number - 1, number, True), (number + 1, number + 1, False),
                                     (number - 1, number - 1, False), (number + 1, 65535, False), (0, number - 1, False)):
                rule = Rule("accept", {name: (low, high)})
                self.assertEqual(rule.meets(DATA), meets, (name, low, high))
                rules = (rule, Rule("drop", {}))
                self.assertEqual(decide(rules, DATA, [0, 0]), "accept" if meets else "drop")
                self.assertEqual(run_filter(compiled(rules), DATA, [0] * 8)[0], "accept" if meets else "drop")

    def test_all_conditions_count(self):
        self.assertTrue(Rule("accept", {"from": (513, 513), "hops": (5, 9)}).meets(DATA))
        self.assertFalse(Rule("accept", {"from": (513, 513), "hops": (6, 9)}).meets(DATA))
        self.assertFalse(Rule("accept", {"from": (0, 9), "hops": (5, 9)}).meets(DATA))
        self.assertTrue(Rule("accept", {}, 0).meets(DATA))


class TextTest(unittest.TestCase):
    def test_texts_there_and_back(self):
        for text in ("drop", "accept", "accept from 1; drop", "drop from 1-2 to 3 hops 4-16 size 5-400 most 6; accept",
                     "accept most 0; drop hops 0; accept size 99999; drop"):
            self.assertEqual(rules_text(parse_rules(text)), text)

    def test_conditions_come_in_any_order_and_go_in_one(self):
        self.assertEqual(shown("drop most 6 size 5 hops 4 to 3-9 from 1; accept"),
                         [("drop", (("from", (1, 1)), ("hops", (4, 4)), ("size", (5, 5)), ("to", (3, 9))), 6),
                          ("accept", (), None)])
        rules = parse_rules("drop most 6 size 5 hops 4 to 3-9 from 1;accept")
        self.assertEqual(rules_text(rules), "drop from 1 to 3-9 hops 4 size 5 most 6; accept")
        self.assertIsInstance(rules, tuple)

    def test_blanks_do_not_count(self):
        self.assertEqual(shown("  accept   from  1 ;drop  "), shown("accept from 1; drop"))
        self.assertEqual(fault(parse_rules, "accept from 1 - 2; drop"), ("no rule", 0))
        self.assertEqual(fault(parse_rules, "accept\n"), ("no rule", 0))

    def test_drawn_rules_there_and_back(self):
        chance = random.Random(1)
        for _ in range(300):
            rules = drawn_rules(chance)
            self.assertEqual([rule.shown() for rule in parse_rules(rules_text(rules))], [rule.shown() for rule in rules])

    def test_numbers(self):
        self.assertEqual(shown("accept size 99999; drop")[0][1], (("size", (99999, 99999)),))
        self.assertEqual(shown("accept from 0-0; drop")[0][1], (("from", (0, 0)),))
        self.assertEqual(shown("accept most 99999; drop")[0][2], 99999)
        self.assertEqual(shown("accept from 7-7; drop"), shown("accept from 7; drop"))
        for word in ("100000", "1-100000", "123456", "-1", "1-", "-", "", "a", "1-2-3", "1.5", "+1", "3-2", "10-9"):
            self.assertEqual(fault(parse_rules, f"drop from 1; accept from {word}; drop"), ("no rule", 1), word)

    def test_lines_that_are_none(self):
        for line in ("", " ", "pass", "Accept", "accept from", "accept 5", "accept from 1 to", "accept port 1",
                     "accept from 1 from 2", "accept most 1 most 2", "accept most 1-2", "accept from 1 2", "from 1", "accept accept"):
            self.assertEqual(fault(parse_rules, f"{line}; drop"), ("no rule", 0), line)
            self.assertEqual(fault(parse_rules, f"drop from 1; {line}; drop"), ("no rule", 1), line)
        self.assertEqual(fault(parse_rules, ""), ("no rule", 0))
        self.assertEqual(fault(parse_rules, "accept;"), ("no rule", 1))

    def test_eight_rules_and_nine(self):
        self.assertEqual(len(parse_rules("; ".join(["accept from 1"] * 7 + ["drop"]))), 8)
        self.assertEqual(fault(parse_rules, "; ".join(["accept from 1"] * 8 + ["drop"])), ("no rule", 8))

    def test_the_last_rule_has_no_conditions(self):
        self.assertEqual(fault(parse_rules, "accept from 1"), ("no rule", 0))
        self.assertEqual(fault(parse_rules, "drop from 1; accept hops 1-2"), ("no rule", 1))
        self.assertEqual(fault(parse_rules, "drop; drop; accept most 5"), ("no rule", 2))
        self.assertEqual(fault(parse_rules, "drop; drop; accept most 0"), ("no rule", 2))

    def test_parse_rule_takes_a_lines_words(self):
        self.assertEqual(parse_rule(["drop", "from", "1-5", "most", "3"], 4).shown(), ("drop", (("from", (1, 5)),), 3))
        self.assertEqual(fault(parse_rule, ["drop", "from"], 4), ("no rule", 4))
        self.assertEqual(fault(parse_rule, [], 2), ("no rule", 2))


def drawn_rules(chance, spans=True):
    rules = []
    for _ in range(chance.randrange(5 if spans else 8)):
        conditions = {}
        for name, top in (("from", 4), ("to", 4), ("hops", 5), ("size", 12)):
            if chance.random() < 0.3:
                low = chance.randrange(top)
                conditions[name] = (low, chance.randrange(low, top) if spans else low)
        rules.append(Rule(chance.choice(("accept", "drop")), conditions, chance.choice((None, None, 0, 1, 3))))
    return tuple(rules + [Rule(chance.choice(("accept", "drop")), {})])


def drawn_data(chance):
    size = chance.choice((0, 1, 3, 4, 5, 5, 6, 7, 8, 11))
    return (0, chance.randrange(4), 0, chance.randrange(4), chance.randrange(5), 1, 2, 3, 4, 5, 6, 7)[:size]


class DecideTest(unittest.TestCase):
    def test_the_first_rule_that_is_met_decides(self):
        rules = parse_rules("drop from 513; accept to 1027; drop")
        self.assertEqual(decide(rules, DATA, [0] * 3), "drop")
        self.assertEqual(decide(rules, (2, 2) + DATA[2:], [0] * 3), "accept")
        self.assertEqual(decide(rules, (2, 2, 2) + DATA[3:], [0] * 3), "drop")
        self.assertEqual(decide(parse_rules("accept"), DATA, [0]), "accept")

    def test_most_is_counted_only_where_the_other_conditions_are_met(self):
        rules = parse_rules("accept from 513 most 2; drop most 1; accept")
        counts = [0, 0, 0]
        other = (9,) + DATA[1:]
        told = [decide(rules, data, counts) for data in (other, DATA, other, DATA, DATA, DATA, other)]
        self.assertEqual(told, ["drop", "accept", "accept", "accept", "accept", "accept", "accept"])
        self.assertEqual(counts, [2, 1, 0])

    def test_most_zero_is_always_passed_over(self):
        counts = [0, 0]
        self.assertEqual(decide(parse_rules("accept most 0; drop"), DATA, counts), "drop")
        self.assertEqual(counts, [0, 0])

    def test_packets_of_fewer_than_five_bytes_are_dropped(self):
        for size in range(8):
            counts = [0, 0]
            word = decide(parse_rules("accept most 9; accept"), DATA[:size], counts)
            self.assertEqual((word, counts[0]), ("drop", 0) if size < 5 else ("accept", 1))

    def test_what_no_rule_meets_is_dropped(self):
        self.assertEqual(decide((Rule("accept", {"from": (1, 1)}),), DATA, [0]), "drop")
        self.assertEqual(run_filter(compiled((Rule("accept", {"from": (1, 1)}),)), DATA, [0] * 8)[0], "drop")


class CompiledTest(unittest.TestCase):
    def test_the_filter_says_what_the_rules_say(self):
        chance = random.Random(3)
        for turn in range(400):
            rules = drawn_rules(chance, turn % 2 == 0)
            try:
                rows = compiled(rules)
            except FilterError as e:
                self.assertEqual((e.word, e.row), ("too long", 64))
                continue
            self.assertTrue(is_safe(rows))
            counts = [0] * len(rules)
            cells = [0] * 8
            for _ in range(60):
                data = drawn_data(chance)
                self.assertEqual(run_filter(rows, data, cells)[0], decide(rules, data, counts))
                self.assertEqual(cells[:len(rules)], counts)
                self.assertEqual(cells[len(rules):], [0] * (8 - len(rules)))

    def words(self, text):
        return [row[0] for row in compiled(parse_rules(text))]

    def test_the_rows_of_rules(self):
        self.assertEqual(self.words("accept"), ["need", "accept", "drop"])
        one, most = ["load", "set", "if"], ["get", "set", "if", "set", "op", "put"]
        self.assertEqual(self.words("drop size 9 from 1 hops 3; accept"),
                         ["need"] + one + one + ["size", "set", "if", "drop", "accept", "drop"])
        self.assertEqual(self.words("drop to 1 most 3; accept"), ["need"] + one + most + ["drop", "accept", "drop"])
        self.assertEqual(self.words("drop to 1-2; accept"), ["need"] + one + ["set", "if", "drop", "accept", "drop"])
        self.assertEqual(self.words("drop size 1-2; accept"),
                         ["need", "size", "set", "if", "set", "if", "drop", "accept", "drop"])
        rows = compiled(parse_rules("drop from 1; accept"))
        self.assertEqual(rows[0], ("need", 5, len(rows) - 1))
        self.assertEqual(rows[1][2:], (0, 2))
        self.assertIsInstance(rows, tuple)

    def test_conditions_stand_in_ascending_order_of_their_words(self):
        rows = compiled(parse_rules("drop to 4 from 1 size 3 hops 2; accept"))
        self.assertEqual([row[2] for row in rows if row[0] == "set"], [1, 2, 3, 4])

    def test_64_rows_and_more(self):
        # Four conditions with one number each are three rows each, and the word is one more.
        full = "drop from 1 to 1 hops 1 size 1"
        self.assertEqual(len(compiled(parse_rules(f"{full}; {full}; {full}; {full}; accept from 1 to 1; drop"))), 62)
        rules = parse_rules(f"{full}; {full}; {full}; drop hops 1 to 1 most 3; drop from 1; drop; drop; drop")
        self.assertEqual(len(compiled(rules)), 61)
        rules = parse_rules(f"{full}; {full}; {full}; drop from 1 most 3; drop from 1; drop from 1; drop; drop")
        self.assertEqual(len(compiled(rules)), 61)
        rules = parse_rules(f"{full}; {full}; {full}; {full}; drop from 1; drop to 1; drop; drop")
        self.assertEqual(len(compiled(rules)), 64)
        rules = parse_rules(f"{full}; {full}; {full}; drop from 1 most 3; drop from 1 most 1; drop; drop; drop")
        self.assertEqual(len(compiled(rules)), 64)
        rules = parse_rules(f"{full}; {full}; {full}; drop from 1 most 3; drop from 1 most 1; drop to 1; drop; drop")
        self.assertEqual(fault(compiled, rules), ("too long", 64))
        rules = parse_rules(f"{full}; {full}; {full}; {full}; drop from 1; drop to 1; drop most 1; drop")
        self.assertEqual(fault(compiled, rules), ("too long", 64))


class GuardTest(unittest.TestCase):
    def test_counts_and_cells(self):
        rows = compiled(parse_rules("accept from 513 most 2; drop"))
        guard = Guard(rows)
        self.assertEqual((guard.rows, guard.cells, guard.accepted, guard.dropped), (rows, [0] * 8, 0, 0))
        self.assertEqual([guard.lets(data, run_filter) for data in (DATA, (1,) + DATA, DATA, DATA, ())],
                         [True, False, True, False, False])
        self.assertEqual((guard.accepted, guard.dropped, guard.cells), (2, 3, [2] + [0] * 7))

    def test_run_is_asked_with_rows_bytes_and_cells(self):
        asked = []

        def run(rows, data, cells):
            asked.append((rows, data, list(cells)))
            cells[3] = 7
            return ("accept", 1)

        guard = Guard((("drop",),))
        self.assertIs(guard.lets((1, 2), run), True)
        self.assertEqual(asked, [((("drop",),), (1, 2), [0] * 8)])
        self.assertEqual((guard.accepted, guard.dropped, guard.cells[3]), (1, 0, 7))


if __name__ == "__main__":
    unittest.main()
