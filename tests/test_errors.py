import unittest

from wirestack import errors

NAMES = ("OctetError", "PacketError", "RouteError", "SocketError", "SealError", "MessageError", "HostError",
         "FilterError", "StoreError")


class ErrorsTest(unittest.TestCase):
    def test_all_stand_under_net_error_which_is_a_value_error(self):
        self.assertTrue(issubclass(errors.NetError, ValueError))
        for name in NAMES:
            self.assertTrue(issubclass(getattr(errors, name), errors.NetError), name)

    def test_no_error_stands_under_another_one_than_the_base(self):
        for name in NAMES:
            for other in NAMES:
                if name != other:
                    self.assertFalse(issubclass(getattr(errors, name), getattr(errors, other)), (name, other))

    def test_errors_are_caught_as_net_error_and_as_value_error(self):
        for name in NAMES:
            for base in (errors.NetError, ValueError):
                with self.assertRaises(base):
                    raise getattr(errors, name)("a word")

    def test_filter_error_has_a_word_and_a_row(self):
        error = errors.FilterError("jump", 7)
        self.assertEqual((error.word, error.row), ("jump", 7))

    def test_filter_error_has_row_0_where_none_is_told(self):
        error = errors.FilterError("no rows")
        self.assertEqual((error.word, error.row), ("no rows", 0))
        self.assertEqual(errors.FilterError(word="no row", row=3).row, 3)


if __name__ == "__main__":
    unittest.main()
