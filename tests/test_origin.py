import unittest

from wirestack.messages import Request, answer_bytes
from wirestack.origin import Origin


class OriginCase(unittest.TestCase):
    def setUp(self):
        self.origin = Origin(7)
        self.number = 0

    def carry(self, method, path="/a", body="", sender="ann", number=None, **heads):
        """Return (code, heads, body) of the answer to a request with the next number."""
        self.number += 1
        request = Request(method, path, self.number if number is None else number, heads, body)
        answer = self.origin.carry(sender, request)
        self.assertEqual(answer.number, request.number)
        answer_bytes(answer)
        return (answer.code, dict(answer.heads), answer.body)

    def get(self, path="/a", **heads):
        return self.carry("GET", path, **heads)


class ReadTest(OriginCase):
    def test_at_the_beginning_nothing_is_there(self):
        self.assertEqual((self.origin.resources, self.origin.versions, self.origin.done), ({}, {}, []))
        self.assertEqual(self.get(), (404, {}, ""))
        self.assertEqual(self.carry("HEAD"), (404, {}, ""))

    def test_what_is_there(self):
        self.carry("PUT", body="text\n here")
        self.assertEqual(self.get(), (200, {"version": "1", "fresh": "7"}, "text\n here"))
        self.assertEqual(self.carry("HEAD"), (200, {"version": "1", "fresh": "7"}, ""))
        self.assertEqual(self.get("/b"), (404, {}, ""))

    def test_fresh_is_told_for_all(self):
        self.origin = Origin(0)
        self.carry("PUT", body="x")
        self.assertEqual(self.get()[1]["fresh"], "0")
        self.origin = Origin()
        self.carry("PUT", body="x")
        self.assertGreater(int(self.get()[1]["fresh"]), 0)

    def test_an_empty_text_is_there(self):
        self.carry("PUT")
        self.assertEqual(self.get(), (200, {"version": "1", "fresh": "7"}, ""))

    def test_what_was_dropped(self):
        self.carry("PUT", body="x")
        self.carry("DELETE")
        self.assertEqual(self.get(), (404, {}, ""))
        self.assertEqual(self.carry("HEAD"), (404, {}, ""))
        self.assertEqual(self.get(unless="1")[0], 404)
        self.assertEqual(self.get(unless="2")[0], 404)

    def test_unless(self):
        self.carry("PUT", body="x")
        self.carry("PUT", body="y")
        for method in ("GET", "HEAD"):
            code, _, body = self.carry(method, unless="2")
            self.assertEqual((code, body), (304, ""))
            for other in ("1", "3", "02", "", "x"):
                code, heads, _ = self.carry(method, unless=other)
                self.assertEqual((code, heads["version"]), (200, "2"))
        self.assertEqual(self.get(unless="1")[2], "y")
        self.assertEqual(self.get("/b", unless="1")[0], 404)

    def test_reads_change_nothing_and_are_carried_out_each_time(self):
        self.assertEqual(self.get(number=1)[0], 404)
        self.carry("PUT", body="x", number=2)
        self.assertEqual(self.get(number=1)[0], 200)
        self.assertEqual(self.get(number=2)[0], 200)
        self.assertEqual(self.origin.done, [("ann", 2)])


class ChangeTest(OriginCase):
    def test_put(self):
        self.assertEqual(self.carry("PUT", body="x"), (201, {"version": "1"}, ""))
        self.assertEqual(self.carry("PUT", body="y"), (200, {"version": "2"}, ""))
        self.assertEqual(self.carry("PUT", "/b", "z"), (201, {"version": "1"}, ""))
        self.assertEqual(self.origin.resources, {"/a": (2, "y"), "/b": (1, "z")})
        self.assertEqual(self.carry("PUT", body="q" * 1500)[0], 200)

    def test_append(self):
        self.assertEqual(self.carry("APPEND", body="x"), (201, {"version": "1"}, ""))
        self.assertEqual(self.carry("APPEND", body="y"), (200, {"version": "2"}, ""))
        self.assertEqual(self.get()[2], "xy")

    def test_append_to_1000_and_to_1001_characters(self):
        self.carry("PUT", body="x" * 600)
        self.assertEqual(self.carry("APPEND", body="y" * 401), (409, {}, ""))
        self.assertEqual(self.get(), (200, {"version": "1", "fresh": "7"}, "x" * 600))
        self.assertEqual(self.carry("APPEND", body="y" * 400), (200, {"version": "2"}, ""))
        self.assertEqual(self.carry("APPEND", body="z"), (409, {}, ""))
        self.assertEqual(self.carry("APPEND", body="")[0], 200)
        self.assertEqual(self.get()[2], "x" * 600 + "y" * 400)
        self.assertEqual(self.carry("APPEND", "/b", "x" * 1001)[0], 409)
        self.assertEqual(self.get("/b")[0], 404)
        self.assertEqual(self.carry("APPEND", "/b", "x" * 1000)[0], 201)

    def test_delete(self):
        self.assertEqual(self.carry("DELETE"), (404, {}, ""))
        self.carry("PUT", body="x")
        self.assertEqual(self.carry("DELETE"), (204, {}, ""))
        self.assertEqual(self.carry("DELETE"), (404, {}, ""))
        self.assertEqual(self.origin.resources, {})

    def test_versions_count_up_with_each_change_and_never_come_again(self):
        self.carry("PUT", body="x")
        self.carry("APPEND", body="x")
        self.carry("DELETE")
        self.assertEqual(self.origin.versions, {"/a": 3})
        self.carry("DELETE")
        self.assertEqual(self.carry("PUT", body="x"), (201, {"version": "4"}, ""))
        self.carry("DELETE")
        self.assertEqual(self.carry("APPEND", body="x"), (201, {"version": "6"}, ""))
        self.assertEqual(self.origin.versions, {"/a": 6})

    def test_changes_that_are_not_carried_out_leave_the_version(self):
        self.carry("DELETE")
        self.carry("PUT", body="x", only="4")
        self.carry("PUT", body="x", only="x")
        self.carry("APPEND", body="x" * 1001)
        self.assertEqual((self.origin.versions.get("/a", 0), self.origin.done), (0, []))


class OnlyTest(OriginCase):
    def test_the_version_there_and_another_one(self):
        self.carry("PUT", body="x")
        for method in ("PUT", "APPEND", "DELETE"):
            for only in ("0", "2", "999999999"):
                self.assertEqual(self.carry(method, body="y", only=only), (412, {"version": "1"}, ""))
        self.assertEqual(self.get()[2], "x")
        self.assertEqual(self.carry("PUT", body="y", only="1"), (200, {"version": "2"}, ""))
        self.assertEqual(self.carry("APPEND", body="y", only="2"), (200, {"version": "3"}, ""))
        self.assertEqual(self.carry("DELETE", only="3"), (204, {}, ""))

    def test_nothing_that_is_there(self):
        for method, code in (("PUT", 201), ("APPEND", 201), ("DELETE", 404)):
            self.origin = Origin(7)
            self.assertEqual(self.carry(method, only="1"), (412, {"version": "0"}, ""))
            self.assertEqual(self.carry(method, only="0")[0], code)

    def test_what_was_dropped_has_version_0(self):
        self.carry("PUT", body="x")
        self.carry("DELETE")
        self.assertEqual(self.carry("PUT", body="y", only="2"), (412, {"version": "0"}, ""))
        self.assertEqual(self.carry("PUT", body="y", only="0"), (201, {"version": "3"}, ""))

    def test_no_number(self):
        self.carry("PUT", body="x")
        for only in ("", "x", "-1", "01", "1.0", "1 1", "1234567890"):
            self.assertEqual(self.carry("PUT", body="y", only=only), (400, {}, ""))
        self.assertEqual(self.get()[2], "x")

    def test_only_does_not_count_for_reads(self):
        self.carry("PUT", body="x")
        self.assertEqual(self.get(only="9")[0], 200)


class OnceTest(OriginCase):
    def test_a_change_that_comes_again_is_answered_the_same(self):
        first = self.carry("APPEND", body="x", number=5)
        self.carry("APPEND", body="y", number=6)
        self.assertEqual(self.carry("APPEND", body="x", number=5), first)
        self.assertEqual(self.get()[2], "xy")
        self.assertEqual(self.origin.versions, {"/a": 2})
        self.assertEqual(self.origin.done, [("ann", 5), ("ann", 6)])

    def test_each_code_is_answered_again(self):
        self.assertEqual(self.carry("DELETE", number=1)[0], 404)
        self.assertEqual(self.carry("PUT", body="x", number=2, only="5"), (412, {"version": "0"}, ""))
        self.assertEqual(self.carry("PUT", body="x", number=3, only="?")[0], 400)
        self.assertEqual(self.carry("APPEND", body="x" * 1001, number=4)[0], 409)
        self.carry("PUT", body="x", number=5)
        self.carry("DELETE", number=6)
        self.assertEqual(self.carry("DELETE", number=1)[0], 404)
        self.assertEqual(self.carry("PUT", body="x", number=2, only="5"), (412, {"version": "0"}, ""))
        self.assertEqual(self.carry("PUT", body="x", number=3)[0], 400)
        self.assertEqual(self.carry("APPEND", body="x", number=4)[0], 409)
        self.assertEqual(self.carry("DELETE", number=6)[0], 204)
        self.assertEqual(self.origin.resources, {})

    def test_the_same_number_of_another_sender(self):
        self.carry("APPEND", body="x", number=5)
        self.assertEqual(self.carry("APPEND", body="y", sender="bob", number=5), (200, {"version": "2"}, ""))
        self.assertEqual(self.get()[2], "xy")
        self.assertEqual(self.origin.done, [("ann", 5), ("bob", 5)])

    def test_an_answer_that_is_changed_outside_is_still_answered_the_same(self):
        answer = self.origin.carry("ann", Request("PUT", "/a", 1, (), "x"))
        answer.heads["version"] = "9"
        self.assertEqual(self.carry("PUT", body="x", number=1), (201, {"version": "1"}, ""))

    def test_done_has_codes_below_300_alone_in_order(self):
        for number, method, body, code in ((9, "PUT", "x", 201), (4, "DELETE", "", 204), (5, "DELETE", "", 404),
                                           (3, "APPEND", "x", 201), (7, "APPEND", "x" * 1000, 409), (1, "PUT", "x", 200)):
            self.assertEqual(self.carry(method, body=body, number=number)[0], code)
        self.carry("GET", number=8)
        self.assertEqual(self.origin.done, [("ann", 9), ("ann", 4), ("ann", 3), ("ann", 1)])


if __name__ == "__main__":
    unittest.main()
