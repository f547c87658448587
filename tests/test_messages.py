import random
import unittest

from wirestack.errors import MessageError
from wirestack.messages import (CODES, METHODS, Answer, MessageReader, Request, answer_bytes, check_path, head_text,
                                heads_of, number_of, request_bytes)
from wirestack.octets import bytes_text, text_bytes

SMALL = "abcdefghijklmnopqrstuvwxyz"


def read_request(text):
    return [message.shown() for message in MessageReader(True).feed(text_bytes(text))]


def read_answer(text):
    return [message.shown() for message in MessageReader(False).feed(text_bytes(text))]


class MessageTest(unittest.TestCase):
    def test_methods_and_codes(self):
        self.assertEqual(METHODS, ("GET", "PUT", "APPEND", "DELETE", "HEAD"))
        self.assertEqual(CODES, (200, 201, 204, 304, 400, 404, 409, 412, 504))

    def test_fields_of_requests(self):
        request = Request("PUT", "/a", 7, {"b": "2", "a": "1"}, "text")
        self.assertEqual((request.method, request.path, request.number, request.heads, request.body),
                         ("PUT", "/a", 7, {"a": "1", "b": "2"}, "text"))
        self.assertEqual(request.shown(), ("PUT", "/a", 7, (("a", "1"), ("b", "2")), "text"))
        self.assertEqual(Request("GET", "/", 0).shown(), ("GET", "/", 0, (), ""))
        self.assertEqual(Request("GET", "/", 0, (("x", "y"),)).heads, {"x": "y"})

    def test_fields_of_answers(self):
        answer = Answer(200, 7, {"b": "2", "a": "1"}, "text")
        self.assertEqual((answer.code, answer.number, answer.heads, answer.body), (200, 7, {"a": "1", "b": "2"}, "text"))
        self.assertEqual(answer.shown(), (200, 7, (("a", "1"), ("b", "2")), "text"))
        self.assertEqual((Answer(404, 1).shown(), Answer(404, 1).heads), ((404, 1, (), ""), {}))

    def test_heads_are_each_message_s_own(self):
        heads = {"a": "1"}
        request, answer = Request("GET", "/", 1, heads), Answer(200, 1, heads)
        heads["b"] = "2"
        request.heads["c"] = "3"
        self.assertEqual((answer.heads, Request("GET", "/", 1).heads), ({"a": "1"}, {}))

    def test_what_may_change_something(self):
        self.assertEqual([method for method in METHODS if Request(method, "/", 1).changes()], ["PUT", "APPEND", "DELETE"])


class TextTest(unittest.TestCase):
    def test_requests_as_texts(self):
        self.assertEqual(bytes_text(request_bytes(Request("GET", "/a", 7))), "GET /a 7 0\n\n")
        self.assertEqual(bytes_text(request_bytes(Request("PUT", "/a/b.c", 0, {"only": "3", "from": "x y"}, "hi\n\nyou"))),
                         "PUT /a/b.c 0 7\nfrom: x y\nonly: 3\n\nhi\n\nyou")

    def test_answers_as_texts(self):
        self.assertEqual(bytes_text(answer_bytes(Answer(404, 7))), "404 7 0\n\n")
        self.assertEqual(bytes_text(answer_bytes(Answer(200, 123456789, {"version": "1", "fresh": "9"}, "a: b\n"))),
                         "200 123456789 5\nfresh: 9\nversion: 1\n\na: b\n")

    def test_heads_stand_in_ascending_order(self):
        self.assertEqual(head_text({}), "")
        self.assertEqual(head_text({"c": "1", "a": "3", "b-": "2", "b": ""}), "a: 3\nb: \nb-: 2\nc: 1\n")

    def test_heads_that_cannot_be_told(self):
        for heads in ({"": "1"}, {"A": "1"}, {"a1": "1"}, {"a b": "1"}, {"a:": "1"}, {"a_b": "1"}, {"a": "1\n2"},
                      {"a": " 1"}, {"a": "1 "}, {"a": " "}, {"a": "\n"}, {"good": "1", "Bad": "2"}):
            with self.assertRaises(MessageError):
                head_text(heads)
            with self.assertRaises(MessageError):
                request_bytes(Request("GET", "/", 1, heads))
            with self.assertRaises(MessageError):
                answer_bytes(Answer(200, 1, heads))

    def test_signs_that_cannot_be_told(self):
        for text in ("%", "a\tb", "\u20ac"):
            for request in (Request("PUT", "/", 1, {}, text), Request("PUT", "/", 1, {"a": text})):
                with self.assertRaises(MessageError):
                    request_bytes(request)
            for answer in (Answer(200, 1, {}, text), Answer(200, 1, {"a": text})):
                with self.assertRaises(MessageError):
                    answer_bytes(answer)

    def test_each_method_and_each_code_and_no_others(self):
        for method in METHODS:
            self.assertEqual(read_request(bytes_text(request_bytes(Request(method, "/", 1)))), [(method, "/", 1, (), "")])
        for code in CODES:
            self.assertEqual(read_answer(bytes_text(answer_bytes(Answer(code, 1)))), [(code, 1, (), "")])
        for method in ("get", "POST", "", "GET ", "TRACE"):
            with self.assertRaises(MessageError):
                request_bytes(Request(method, "/", 1))
            with self.assertRaises(MessageError):
                read_request(method + " / 1 0\n\n")
        for code in (0, 100, 202, 203, 500, 999, -200):
            with self.assertRaises(MessageError):
                answer_bytes(Answer(code, 1))
            with self.assertRaises(MessageError):
                read_answer(f"{code} 1 0\n\n")
        for code in ("0200", "OK", "", "20"):
            with self.assertRaises(MessageError):
                read_answer(code + " 1 0\n\n")

    def test_numbers_of_nine_digits_go(self):
        for number in (0, 1, 10, 999999999):
            self.assertEqual(read_request(bytes_text(request_bytes(Request("GET", "/", number))))[0][2], number)
            self.assertEqual(read_answer(bytes_text(answer_bytes(Answer(200, number))))[0][1], number)
        for number in (-1, 10 ** 9, 10 ** 12):
            with self.assertRaises(MessageError):
                request_bytes(Request("GET", "/", number))
            with self.assertRaises(MessageError):
                answer_bytes(Answer(200, number))

    def test_bodies_of_1500_go_and_1501_do_not(self):
        body = "ab\n" * 500
        self.assertEqual(read_request(bytes_text(request_bytes(Request("PUT", "/", 1, {}, body))))[0][4], body)
        self.assertEqual(read_answer(bytes_text(answer_bytes(Answer(200, 1, {}, body))))[0][3], body)
        for message, deed in ((Request("PUT", "/", 1, {}, body + "c"), request_bytes),
                              (Answer(200, 1, {}, body + "c"), answer_bytes)):
            with self.assertRaises(MessageError):
                deed(message)
        with self.assertRaises(MessageError):
            read_request("PUT / 1 1501\n\n" + body + "c")
        with self.assertRaises(MessageError):
            read_answer("200 1 1501\n\n")

    def test_heads_end_after_at_most_600_signs(self):
        begin = "GET / 1 0\na: "
        request = Request("GET", "/", 1, {"a": "x" * (600 - len(begin) - 2)})
        text = bytes_text(request_bytes(request))
        self.assertEqual((len(text), read_request(text)), (600, [request.shown()]))
        for many in (10, 600, 1400):
            with self.assertRaises(MessageError):
                request_bytes(Request("GET", "/", 1, {"a": "x" * (598 - len(begin) + many)}))
            with self.assertRaises(MessageError):
                answer_bytes(Answer(200, 1, {"a": "x" * (598 + many)}))
            with self.assertRaises(MessageError):
                read_request(begin + "x" * (598 - len(begin) + many) + "\n\n")

    def test_heads_that_do_not_end_are_refused_when_600_signs_came(self):
        for text in ("GET / 1 0\na: " + "x" * 700, "x" * 700, "GET / 1 0\n" + "".join(
                f"{one}{two}: 1\n" for one in SMALL for two in SMALL[:6])):
            reader = MessageReader(True)
            with self.assertRaises(MessageError):
                reader.feed(text_bytes(text))
            with self.assertRaises(MessageError):
                reader.feed(())


class PartTest(unittest.TestCase):
    def test_paths(self):
        for path in ("/", "/a", "//", "/Az09/._-", "/" + "x" * 59):
            self.assertIsNone(check_path(path))
            self.assertEqual(read_request(bytes_text(request_bytes(Request("GET", path, 1))))[0][1], path)
        for path in ("", "a", "a/b", "/" + "x" * 60, "/a b", "/a?b", "/a\n", "/%", "/a:b", "/\u00e4", "x" * 61):
            with self.assertRaises(MessageError):
                check_path(path)
            with self.assertRaises(MessageError):
                request_bytes(Request("GET", path, 1))
        for path in ("a", "/" + "x" * 60, "/a?b", ""):
            with self.assertRaises(MessageError):
                read_request(f"GET {path} 1 0\n\n")

    def test_numbers(self):
        for text, number in (("0", 0), ("7", 7), ("10", 10), ("999999999", 999999999), ("100000000", 10 ** 8)):
            self.assertEqual(number_of(text), number)
        for text in ("", "00", "07", "1000000000", "9999999999", "-1", "+1", " 1", "1 ", "a", "1a", "1.0", "1_0", "\u0663"):
            with self.assertRaises(MessageError):
                number_of(text)

    def test_numbers_in_first_lines(self):
        for number in ("00", "07", "1000000000", "-1", "", "x"):
            for text in (f"GET / {number} 0\n\n", f"GET / 1 {number}\n\n"):
                with self.assertRaises(MessageError):
                    read_request(text)
            for text in (f"200 {number} 0\n\n", f"200 1 {number}\n\n"):
                with self.assertRaises(MessageError):
                    read_answer(text)

    def test_first_lines_of_other_forms(self):
        for line in ("", "GET", "GET /", "GET / 1", "GET / 1 0 0", "GET  / 1 0", " GET / 1 0", "GET / 1 0 ", "200 1 0", "GET:/:1:0"):
            with self.assertRaises(MessageError):
                read_request(line + "\n\n")
        for line in ("", "200", "200 1", "200 1 0 0", "200  1 0", " 200 1 0", "200 1 0 ", "GET / 1 0"):
            with self.assertRaises(MessageError):
                read_answer(line + "\n\n")

    def test_heads_of_lines(self):
        self.assertEqual(heads_of([]), {})
        self.assertEqual(heads_of(["a: 1", "b-c: x: y", "d: ", "z: %"]), {"a": "1", "b-c": "x: y", "d": "", "z": "%"})

    def test_lines_that_are_no_heads(self):
        for line in ("", "a", "a:", "a:1", ": 1", "A: 1", "a1: 1", "a b: 1", "a:  1", "a: 1 ", "a:   ", " a: 1", "a : 1"):
            with self.assertRaises(MessageError):
                heads_of(["good: 1", line])
            if line != "":
                with self.assertRaises(MessageError):
                    read_request("GET / 1 0\n" + line + "\n\n")

    def test_heads_that_do_not_ascend_form_no_message(self):
        self.assertEqual(read_request("GET / 1 0\na: 2\nb: 1\n\n"), [("GET", "/", 1, (("a", "2"), ("b", "1")), "")])
        for lines in ("b: 1\na: 2\n", "a: 1\nc: 2\nb: 3\n"):
            with self.assertRaises(MessageError):
                read_request("GET / 1 0\n" + lines + "\n")
            with self.assertRaises(MessageError):
                read_answer("200 1 0\n" + lines + "\n")

    def test_a_name_told_twice(self):
        with self.assertRaises(MessageError):
            heads_of(["a: 1", "b: 2", "a: 1"])
        with self.assertRaises(MessageError):
            read_answer("200 1 0\na: 1\na: 2\n\n")


class ReaderTest(unittest.TestCase):
    def messages(self, requests):
        chance = random.Random(19)
        found = []
        for number in range(12):
            heads = {"".join(chance.choices(SMALL + "-", k=3)): "v " * chance.randrange(3) + "w" for _ in range(number % 4)}
            body = "".join(chance.choices("ab \n:", k=chance.randrange(40)))
            found.append(Request(chance.choice(METHODS), "/" + SMALL[:number], number, heads, body) if requests
                         else Answer(chance.choice(CODES), number, heads, body))
        return found

    def test_messages_come_in_order_however_the_bytes_are_cut(self):
        chance = random.Random(20)
        for requests in (True, False):
            rows = self.messages(requests)
            data = sum(((request_bytes if requests else answer_bytes)(row) for row in rows), ())
            for many in [1, 2, 50, len(data)] + [None] * 10:
                reader = MessageReader(requests)
                found, begin = (), 0
                while begin < len(data):
                    step = many or chance.randrange(1, 120)
                    found += reader.feed(data[begin:begin + step])
                    begin += step
                self.assertEqual([row.shown() for row in found], [row.shown() for row in rows])
                self.assertEqual(reader.held, ())
                self.assertEqual({row.__class__ for row in found}, {Request if requests else Answer})

    def test_a_message_comes_with_its_last_byte(self):
        data = request_bytes(Request("PUT", "/", 1, {"a": "1"}, "hello"))
        reader = MessageReader(True)
        for place in range(len(data) - 1):
            self.assertEqual(reader.feed(data[place:place + 1]), ())
            self.assertEqual(reader.held, data[:place + 1])
        self.assertEqual([row.body for row in reader.feed(data[-1:])], ["hello"])
        self.assertEqual(reader.feed(()), ())

    def test_messages_before_the_damage_come_first_then_each_call_raises(self):
        good = request_bytes(Request("GET", "/a", 1)) + request_bytes(Request("PUT", "/b", 2, {}, "x"))
        for bad in (text_bytes("GO / 1 0\n\n"), text_bytes("GET / 01 0\n\n"), (95,), (200,), text_bytes("PUT / 1 3\n\na") + (255,),
                    text_bytes("PUT / 1 1501\n\n"), text_bytes("x" * 600)):
            for more in ((), good):
                reader = MessageReader(True)
                self.assertEqual([row.path for row in reader.feed(good + bad + more)], ["/a", "/b"])
                for data in ((), good, (1,)):
                    with self.assertRaises(MessageError):
                        reader.feed(data)

    def test_damage_alone_is_told_at_once_and_ever_after(self):
        for data in (text_bytes("GO / 1 0\n\n"), (95,), text_bytes("200 1 0\n\n")):
            reader = MessageReader(True)
            for more in (data, (), request_bytes(Request("GET", "/a", 1))):
                with self.assertRaises(MessageError):
                    reader.feed(more)

    def test_requests_are_no_answers(self):
        with self.assertRaises(MessageError):
            MessageReader(False).feed(request_bytes(Request("GET", "/a", 1)))
        with self.assertRaises(MessageError):
            MessageReader(True).feed(answer_bytes(Answer(200, 1)))

    def test_what_follows_a_body_is_the_next_message(self):
        self.assertEqual([row[4] for row in read_request("PUT / 1 2\n\nabPUT / 2 0\n\nPUT / 3 1\n\n\n")], ["ab", "", "\n"])
        with self.assertRaises(MessageError):
            reader = MessageReader(True)
            self.assertEqual(len(reader.feed(text_bytes("PUT / 1 2\n\nabcPUT / 2 0\n\n"))), 1)
            reader.feed(())


if __name__ == "__main__":
    unittest.main()
