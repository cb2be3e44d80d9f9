"""The definitions of integer, byte, port, word, sequence and data."""

import unittest

from lossway.checks import (
    is_at_least, is_between, is_byte, is_integer, is_long, is_port, is_sequence, is_word, require_data, require_limit,
)
from lossway.errors import InvalidNumber, InvalidSetting
from tests.values import NOT_INTEGERS, NOT_SEQUENCES, caught


class ChecksTest(unittest.TestCase):
    def test_integers(self):
        for value in (0, 1, -1, 10 ** 12, -10 ** 12):
            self.assertIs(is_integer(value), True)
        for value in NOT_INTEGERS:
            self.assertIs(is_integer(value), False, value)

    def test_ranges_have_both_ends(self):
        for check, low, high in (
            (is_byte, 0, 255),
            (is_port, 1, 65535),
            (is_word, 0, 65535),
            (is_long, 0, 4294967295),
            (lambda value: is_between(value, -3, 4), -3, 4),
        ):
            for value, wanted in ((low - 1, False), (low, True), (high, True), (high + 1, False)):
                self.assertIs(check(value), wanted, (check, value))
            for value in NOT_INTEGERS:
                self.assertIs(check(value), False, (check, value))

    def test_at_least(self):
        for low in (-2, 0, 5):
            for value, wanted in ((low - 1, False), (low, True), (low + 1, True), (10 ** 12, True)):
                self.assertIs(is_at_least(value, low), wanted)
            for value in NOT_INTEGERS:
                self.assertIs(is_at_least(value, low), False, value)

    def test_sequences_are_lists_and_tuples(self):
        for value in ([], (), [1], (1, "a")):
            self.assertIs(is_sequence(value), True)
        for value in NOT_SEQUENCES:
            self.assertIs(is_sequence(value), False, value)

    def test_data(self):
        for data in ([], (), [0, 255], (0, 255)):
            self.assertIsNone(require_data(data))
        for value in NOT_SEQUENCES:
            self.assertIs(caught(InvalidNumber, require_data, value)["number"], value)
        for value in (*NOT_INTEGERS, -1, 256):
            self.assertIs(caught(InvalidNumber, require_data, [0, value, -7])["number"], value)

    def test_limits(self):
        for limit in (1, 65535):
            self.assertIsNone(require_limit(limit))
        for limit in (*NOT_INTEGERS, -1, 0, 65536):
            self.assertEqual(caught(InvalidSetting, require_limit, limit), {"setting": "limit"})


if __name__ == "__main__":
    unittest.main()
