import itertools
import unittest

from wirestack.errors import MessageError
from wirestack.topics import fits_topic, pattern_parts, topic_parts


def fits(pattern, topic):
    return fits_topic(pattern_parts(pattern), topic_parts(topic))


class PartsTest(unittest.TestCase):
    def test_topics(self):
        self.assertEqual(topic_parts("a"), ("a",))
        self.assertEqual(topic_parts("home/garden/rain2"), ("home", "garden", "rain2"))
        self.assertEqual(topic_parts("a/b/c/d/e"), tuple("abcde"))
        self.assertEqual(topic_parts("a" * 10 + "/" + "0" * 10), ("a" * 10, "0" * 10))

    def test_other_topics_are_refused(self):
        for text in ("", "/", "a/", "/a", "a//b", "a/b/c/d/e/f", "a" * 11, "b/" + "a" * 11, "A", "a b", "a_b", "a-b", "+", "#", "a/+",
                     "a/#", "a\n", "a@b"):
            with self.assertRaises(MessageError):
                topic_parts(text)

    def test_patterns(self):
        for text in ("a", "+", "#", "+/+", "+/#", "a/+/c", "+/b", "a/+", "a/#", "a/b/c/d/#", "a/b/c/d/+", "+/+/+/+/+", "a" * 10):
            self.assertEqual(pattern_parts(text), tuple(text.split("/")))

    def test_other_patterns_are_refused(self):
        for text in ("", "/", "a/", "#/a", "a/#/b", "#/#", "a/b/c/d/e/#", "a/b/c/d/e/f", "+/+/+/+/+/+", "a+", "+a", "a#", "a/b#", "++",
                     "##", "a" * 11, "A/#", "a b"):
            with self.assertRaises(MessageError):
                pattern_parts(text)


class FitsTest(unittest.TestCase):
    def test_patterns_that_fit(self):
        for pattern, topic in (("a", "a"), ("a/b", "a/b"), ("+", "a"), ("+/b", "a/b"), ("a/+", "a/b"), ("a/+/c", "a/b/c"),
                               ("#", "a"), ("#", "a/b/c/d/e"), ("a/#", "a/b"), ("a/#", "a/b/c/d/e"), ("a/#", "a"), ("+/#", "a/b"),
                               ("+/#", "a"), ("a/b/c/d/#", "a/b/c/d/e"), ("a/b/c/d/#", "a/b/c/d")):
            self.assertIs(fits(pattern, topic), True, (pattern, topic))

    def test_patterns_that_just_do_not(self):
        for pattern, topic in (("a", "b"), ("a", "a/b"), ("a/b", "a"), ("a", "aa"), ("+", "a/b"), ("+/b", "b"), ("+/b", "a/c"),
                               ("a/+", "a"), ("a/+", "a/b/c"), ("a/+/c", "a/c"), ("a/+/c", "a/b/d"), ("a/#", "b"), ("a/#", "b/a"),
                               ("+/+/#", "a"), ("a/b/#", "a"), ("a/b/#", "a/c")):
            self.assertIs(fits(pattern, topic), False, (pattern, topic))

    def test_all_small_ones(self):
        topics = [topic for many in (1, 2, 3) for topic in itertools.product("ab", repeat=many)]
        for many in (1, 2, 3):
            for pattern in itertools.product("a+#", repeat=many):
                if "#" in pattern[:-1]:
                    continue
                for topic in topics:
                    plain = pattern[:-1] if pattern[-1] == "#" else pattern
                    found = len(topic) == len(plain) or (pattern[-1] == "#" and len(topic) >= len(plain))
                    found = found and all(one in ("+", part) for one, part in zip(plain, topic))
                    self.assertEqual(fits_topic(pattern, topic), found, (pattern, topic))


if __name__ == "__main__":
    unittest.main()
