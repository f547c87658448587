import random
import unittest

from wirestack.cache import Cache, Entry
from wirestack.messages import Answer, Request
from wirestack.origin import Origin


def shown(answer):
    return None if answer is None else (answer.code, answer.number, dict(answer.heads), answer.body)


class EntryTest(unittest.TestCase):
    def test_fields_and_freshness(self):
        entry = Entry("3", "text", 10, 5)
        self.assertEqual((entry.version, entry.text, entry.time, entry.fresh), ("3", "text", 10, 5))
        self.assertEqual([entry.is_fresh(time) for time in (10, 14, 15, 16)], [True, True, False, False])
        self.assertFalse(Entry("3", "text", 10, 0).is_fresh(10))
        self.assertTrue(Entry("3", "text", 10, 1).is_fresh(10))


class CacheCase(unittest.TestCase):
    def setUp(self):
        self.cache = Cache()

    def request(self, method="GET", path="/a", number=1, **heads):
        return Request(method, path, number, heads)

    def put(self, path="/a", time=10, version="1", fresh="5", text="text"):
        """Let the cache keep a text."""
        request = self.request(path=path)
        heads = {"version": version} if fresh is None else {"version": version, "fresh": fresh}
        return self.cache.take(request, self.cache.ask(request), Answer(200, 1, heads, text), time)

    def hit(self, time, *parts, **heads):
        return shown(self.cache.answer(self.request(*parts, **heads), time))

    def take(self, code, method="GET", time=10, heads=(), body="", **own):
        request = self.request(method, **own)
        return shown(self.cache.take(request, self.cache.ask(request), Answer(code, 1, heads, body), time))


class AnswerTest(CacheCase):
    def test_at_the_beginning_nothing_is_kept(self):
        self.assertEqual((self.cache.entries, self.cache.hits, self.cache.asked_again), ({}, 0, 0))
        self.assertIsNone(self.hit(0))

    def test_a_fresh_entry_answers(self):
        self.put()
        self.assertEqual(self.hit(10), (200, 1, {"version": "1", "age": "0"}, "text"))
        self.assertEqual(self.hit(13, "GET", "/a", 77), (200, 77, {"version": "1", "age": "3"}, "text"))
        self.assertEqual(self.hit(13, "HEAD", "/a", 78), (200, 78, {"version": "1", "age": "3"}, ""))
        self.assertEqual(self.cache.hits, 3)

    def test_one_tick_before_its_end_and_at_its_end(self):
        self.put()
        self.assertEqual(self.hit(14)[2]["age"], "4")
        self.assertIsNone(self.hit(15))
        self.assertIsNone(self.hit(15, "HEAD"))
        self.assertIsNone(self.hit(99))
        self.assertEqual(self.cache.hits, 1)

    def test_what_goes_to_the_origin(self):
        self.put()
        self.assertIsNone(self.hit(10, now="1"))
        self.assertIsNone(self.hit(10, now=""))
        self.assertIsNone(self.hit(10, unless="1"))
        self.assertIsNone(self.hit(10, "HEAD", unless="7"))
        self.assertIsNone(self.hit(10, "HEAD", now="1"))
        for method in ("PUT", "APPEND", "DELETE"):
            self.assertIsNone(self.hit(10, method))
        self.assertIsNone(self.hit(10, "GET", "/b"))
        self.assertEqual(self.cache.hits, 0)
        self.assertIsNotNone(self.hit(10, only="4"))

    def test_an_answer_without_the_head_fresh_is_fresh_for_no_tick(self):
        self.put(fresh=None)
        self.assertEqual(self.cache.entries["/a"].fresh, 0)
        self.assertIsNone(self.hit(10))
        self.put(fresh="0")
        self.assertIsNone(self.hit(10))
        self.put(fresh="x")
        self.assertIsNone(self.hit(10))


class AskTest(CacheCase):
    def test_without_an_entry_the_request_is_asked_as_it_is(self):
        for method in ("GET", "HEAD", "PUT", "APPEND", "DELETE"):
            request = Request(method, "/a", 4, {"from": "ann", "only": "3"}, "body")
            self.assertEqual(self.cache.ask(request).shown(), request.shown())

    def test_a_get_is_asked_with_the_version_that_is_kept(self):
        self.put(version="8")
        request = Request("GET", "/a", 4, {"from": "ann"})
        asked = self.cache.ask(request)
        self.assertEqual(asked.shown(), ("GET", "/a", 4, (("from", "ann"), ("unless", "8")), ""))
        self.assertEqual(request.heads, {"from": "ann"})
        self.assertEqual(self.cache.ask(self.request(now="1")).heads, {"now": "1", "unless": "8"})

    def test_other_requests_are_asked_as_they_are(self):
        self.put()
        for request in (self.request(unless="5"), self.request("HEAD"), self.request("PUT"), self.request("DELETE"),
                        self.request(path="/b")):
            self.assertEqual(self.cache.ask(request).shown(), request.shown())


class TakeTest(CacheCase):
    def test_what_get_answered_with_200_is_kept(self):
        self.assertEqual(shown(self.put()), (200, 1, {"version": "1", "fresh": "5"}, "text"))
        entry = self.cache.entries["/a"]
        self.assertEqual((entry.version, entry.text, entry.time, entry.fresh), ("1", "text", 10, 5))
        self.put(time=20, version="2", text="other")
        self.assertEqual(self.hit(20)[3], "other")

    def test_a_get_with_now_or_unless_is_kept_too(self):
        heads = {"version": "1", "fresh": "5"}
        self.take(200, heads=heads, body="x", now="1")
        self.assertEqual(self.hit(10)[3], "x")
        self.take(200, heads=heads, body="y", unless="9")
        self.assertEqual(self.hit(10)[3], "y")

    def test_nothing_else_is_kept(self):
        heads = {"version": "1", "fresh": "5"}
        for code, method in ((200, "HEAD"), (200, "PUT"), (201, "APPEND"), (504, "GET"), (404, "GET"), (304, "GET"),
                             (400, "GET")):
            self.assertEqual(self.take(code, method, heads=heads, body="x"), (code, 1, heads, "x"))
            self.assertEqual(self.cache.entries, {})

    def test_304_makes_the_entry_fresh_again(self):
        self.put()
        self.assertIsNone(self.hit(20))
        code, number, heads, body = self.take(304, time=20, heads={"version": "1", "fresh": "5"})
        self.assertEqual((code, number, heads["version"], body), (200, 1, "1", "text"))
        self.assertEqual((self.cache.asked_again, self.cache.hits), (1, 0))
        self.assertEqual(self.cache.entries["/a"].time, 20)
        self.assertEqual(self.hit(24), (200, 1, {"version": "1", "age": "4"}, "text"))
        self.assertIsNone(self.hit(25))

    def test_304_without_heads(self):
        self.put(version="8")
        self.assertEqual(self.take(304, time=20), (200, 1, {"version": "8"}, "text"))
        self.assertIsNotNone(self.hit(24))
        self.assertIsNone(self.hit(25))

    def test_304_may_tell_another_time(self):
        self.put()
        self.take(304, time=20, heads={"version": "1", "fresh": "9"})
        self.assertIsNotNone(self.hit(28))
        self.assertIsNone(self.hit(29))

    def test_304_to_an_own_unless_stays_304(self):
        self.put()
        self.assertEqual(self.take(304, time=20, unless="1"), (304, 1, {}, ""))
        self.assertIsNone(self.hit(20))
        self.assertEqual(self.take(304, "HEAD", time=20, unless="1")[0], 304)

    def test_304_of_an_entry_that_is_gone_stays_304(self):
        self.put()
        request = self.request(now="1")
        asked = self.cache.ask(request)
        self.take(201, "PUT")
        self.assertEqual(self.cache.take(request, asked, Answer(304, 1), 20).code, 304)
        self.put(version="2", text="other")
        self.assertEqual(self.cache.take(request, asked, Answer(304, 1), 20).code, 304)

    def test_changes_drop_the_entry(self):
        for method in ("PUT", "APPEND", "DELETE"):
            for code in (200, 201, 204, 400, 404, 409, 412, 504):
                self.put()
                self.put("/b")
                self.assertEqual(self.take(code, method)[0], code)
                self.assertEqual(list(self.cache.entries), ["/b"])

    def test_404_drops_the_entry(self):
        for method in ("GET", "HEAD"):
            self.put()
            self.assertEqual(self.take(404, method)[0], 404)
            self.assertEqual(self.cache.entries, {})

    def test_504_of_a_read_leaves_the_entry(self):
        self.put()
        self.assertEqual(self.take(504, time=12)[0], 504)
        self.assertIsNotNone(self.hit(14))
        self.assertIsNone(self.hit(15))


class UseTest(CacheCase):
    def paths(self):
        return [path for path in "abcdefghijklmnopqrstuvwxyz" if f"/{path}" in self.cache.entries]

    def test_20_entries_where_nothing_is_told(self):
        for letter in "abcdefghijklmnopqrst":
            self.put(f"/{letter}")
        self.assertEqual(len(self.cache.entries), 20)
        self.put("/u")
        self.assertEqual(self.paths(), list("bcdefghijklmnopqrstu"))

    def test_other_numbers(self):
        for most in (1, 2, 3):
            self.cache = Cache(most)
            for letter in "abcde":
                self.put(f"/{letter}")
            self.assertEqual(self.paths(), list("abcde"[-most:]))

    def test_answered_made_fresh_and_kept_are_uses(self):
        for use in (lambda: self.hit(11), lambda: self.take(304), lambda: self.put(), lambda: self.hit(11, "HEAD")):
            self.cache = Cache(3)
            for path in ("/a", "/b", "/c"):
                self.put(path)
            use()
            self.put("/d")
            self.assertEqual(self.paths(), list("acd"))
            self.put("/e")
            self.put("/f")
            self.assertEqual(self.paths(), list("def"))

    def test_other_looks_are_no_uses(self):
        for look in (lambda: self.hit(99), lambda: self.hit(10, now="1"), lambda: self.cache.ask(self.request()),
                     lambda: self.take(504), lambda: self.take(304, unless="1"), lambda: self.take(200, "HEAD")):
            self.cache = Cache(3)
            for path in ("/a", "/b", "/c"):
                self.put(path)
            look()
            self.put("/d")
            self.assertEqual(self.paths(), list("bcd"))


class PromiseTest(unittest.TestCase):
    def test_what_is_read_was_so_at_a_time_not_longer_ago_than_it_may_be_kept(self):
        chance = random.Random(4)
        for fresh in (0, 3, 10):
            origin, cache = Origin(fresh), Cache(2)
            states = {path: [(0, "")] for path in ("/a", "/b", "/c")}
            for time in range(1, 600):
                path = chance.choice(("/a", "/b", "/c"))
                method = chance.choice(("GET",) * 6 + ("HEAD", "PUT", "DELETE"))
                request = Request(method, path, time, chance.choice(((), (), (("now", "1"),))), str(time))
                straight = request.changes() and chance.random() < 0.5
                answer = None if straight else cache.answer(request, time)
                if answer is None:
                    asked = cache.ask(request)
                    told = origin.carry("ann", asked)
                    answer = told if straight else cache.take(request, asked, told, time)
                states[path].append((time, origin.resources.get(path, (0, ""))[1]))
                if method == "GET":
                    rows = states[path]
                    seen = [text for (_, text), (until, _) in zip(rows, rows[1:] + [(time + 1, "")]) if until >= time - fresh]
                    self.assertIn(answer.body, seen)


if __name__ == "__main__":
    unittest.main()
