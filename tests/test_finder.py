"""lossway.finder: promise 28."""

import unittest

from lossway.errors import InvalidNumber, InvalidSetting
from lossway.finder import Finder
from tests.values import NOT_INTEGERS, caught


def look(finder):
    return (finder.size, finder.ceiling, finder.strikes, finder.trial())


def search(low, high, carried):
    """The finder after a search on a path that carries pieces of at most so many bytes, and the number of trials."""
    finder, turns = Finder(low, high), 0
    while finder.trial() > 0:
        count = finder.trial()
        if count <= carried:
            finder.passed(count)
        else:
            finder.failed(count)
        turns += 1
    return finder, turns


class FinderTest(unittest.TestCase):
    def test_example(self):
        finder = Finder(4, 8)
        tried = finder.trial()
        self.assertIsNone(finder.passed(6))
        self.assertIsNone(finder.failed(7))
        self.assertIsNone(finder.failed(7))
        self.assertEqual([tried, finder.size, finder.ceiling, finder.trial()], [6, 6, 6, 0])

    def test_a_new_finder(self):
        for low, high, trial in ((1, 1, 0), (1400, 1400, 0), (4, 5, 5), (4, 6, 5), (4, 7, 6), (1, 1400, 701)):
            self.assertEqual(look(Finder(low, high)), (low, high, 0, trial))

    def test_wrong_bounds(self):
        for low in (0, -1, 1401, 10 ** 12, *NOT_INTEGERS):
            self.assertEqual(caught(InvalidSetting, Finder, low, 1400), {"setting": "low"})
            self.assertEqual(caught(InvalidSetting, Finder, low, None), {"setting": "low"})
        for high in (4, 0, -1, 1401, *NOT_INTEGERS):
            self.assertEqual(caught(InvalidSetting, Finder, 5, high), {"setting": "high"})

    def test_passed(self):
        finder = Finder(4, 12)
        for count in (0, 1, 4):
            finder.passed(count)
            self.assertEqual(look(finder), (4, 12, 0, 8))
        finder.passed(5)
        self.assertEqual(look(finder), (5, 12, 0, 9))
        finder.passed(12)
        self.assertEqual(look(finder), (12, 12, 0, 0))

    def test_counts_above_the_ceiling(self):
        for count in (13, 1400, 1401, 10 ** 12):
            finder = Finder(4, 12)
            finder.failed(count)
            self.assertEqual(look(finder), (4, 12, 0, 8))
            finder.passed(count)
            self.assertEqual(look(finder), (12, 12, 0, 0))
            finder.passed(count)
            self.assertEqual(look(finder), (12, 12, 0, 0))

    def test_a_trial_that_fails_once_and_twice(self):
        finder = Finder(4, 12)
        finder.failed(8)
        self.assertEqual(look(finder), (4, 12, 1, 8))
        finder.failed(8)
        self.assertEqual(look(finder), (4, 7, 0, 6))

    def test_a_trial_that_passes_after_a_failure(self):
        finder = Finder(4, 12)
        finder.failed(8)
        finder.passed(8)
        self.assertEqual(look(finder), (8, 12, 0, 10))

    def test_other_failures_change_nothing(self):
        finder = Finder(4, 12)
        finder.failed(8)
        for count in (0, 4, 7, 9, 12, 13):
            finder.failed(count)
            self.assertEqual(look(finder), (4, 12, 1, 8))

    def test_smaller_pieces_that_pass_leave_the_strikes(self):
        finder = Finder(4, 12)
        finder.failed(8)
        for count in (0, 3, 4):
            finder.passed(count)
            self.assertEqual(look(finder), (4, 12, 1, 8))
        finder.passed(5)
        self.assertEqual(look(finder), (5, 12, 0, 9))

    def test_an_ended_search_does_not_fail(self):
        for low in (1, 5):
            finder = Finder(low, low)
            for count in (0, 0, low, low, low + 1):
                finder.failed(count)
                finder.passed(count)
            self.assertEqual(look(finder), (low, low, 0, 0))

    def test_wrong_counts(self):
        finder = Finder(4, 12)
        finder.failed(8)
        for call in (finder.passed, finder.failed):
            for count in (-1, -8, *NOT_INTEGERS):
                self.assertIs(caught(InvalidNumber, call, count)["number"], count)
        self.assertEqual(look(finder), (4, 12, 1, 8))

    def test_wrong_counts_of_an_ended_search(self):
        finder = Finder(4, 4)
        for call in (finder.passed, finder.failed):
            self.assertEqual(caught(InvalidNumber, call, -1), {"number": -1})

    def test_the_search_ends_at_what_the_path_carries(self):
        for low in (1, 2, 5):
            for high in range(low, 40):
                for carried in range(low, high + 1):
                    finder, turns = search(low, high, carried)
                    self.assertEqual(look(finder), (carried, carried, 0, 0))
                    self.assertLessEqual(turns, 2 * (high - low).bit_length() + 2)
        for carried in (1, 2, 699, 700, 701, 1399, 1400):
            self.assertEqual(look(search(1, 1400, carried)[0]), (carried, carried, 0, 0))


if __name__ == "__main__":
    unittest.main()
