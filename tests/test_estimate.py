"""lossway.estimate: promises 25 and 26."""

import unittest
from random import Random

from lossway.errors import InvalidNumber, InvalidSetting
from lossway.estimate import Estimate
from tests.values import NOT_INTEGERS, caught


def look(estimate):
    return (estimate.low, estimate.high, estimate.smooth, estimate.spread, estimate.samples, estimate.timeout)


def sampled(low, high, *samples):
    estimate = Estimate(low, high)
    for ticks in samples:
        estimate.sample(ticks)
    return estimate


class BeginTest(unittest.TestCase):
    def test_a_new_estimate(self):
        for low, high in ((1, 1), (1, 100000), (2, 64), (100000, 100000)):
            self.assertEqual(look(Estimate(low, high)), (low, high, 0, 0, 0, min(high, 4 * low)))

    def test_wrong_bounds(self):
        for low in (0, -1, 100001, 10 ** 12, *NOT_INTEGERS):
            self.assertEqual(caught(InvalidSetting, Estimate, low, 64), {"setting": "low"})
            self.assertEqual(caught(InvalidSetting, Estimate, low, None), {"setting": "low"})
        for high in (4, 0, -1, 100001, 10 ** 12, *NOT_INTEGERS):
            self.assertEqual(caught(InvalidSetting, Estimate, 5, high), {"setting": "high"})


class SampleTest(unittest.TestCase):
    def test_example(self):
        estimate = Estimate(2, 64)
        before = estimate.timeout
        self.assertIsNone(estimate.sample(10))
        after = estimate.timeout
        estimate.sample(6)
        found = [before, after, estimate.smooth, estimate.spread, estimate.timeout, estimate.backed(1)]
        self.assertEqual(found, [8, 30, 76, 19, 28, 56])

    def test_the_first_sample(self):
        for ticks in (0, 1, 7, 10 ** 12):
            estimate = sampled(1, 100000, ticks)
            self.assertEqual((estimate.smooth, estimate.spread, estimate.samples), (8 * ticks, 2 * ticks, 1))

    def test_later_samples(self):
        # error = 3 - 10 = -7; the spread of 20 becomes 20 + 7 - 5.
        self.assertEqual(look(sampled(1, 1000, 10, 3)), (1, 1000, 73, 22, 2, 31))
        # error = 15 - 9 = 6; the spread of 22 becomes 22 + 6 - 5.
        self.assertEqual(look(sampled(1, 1000, 10, 3, 15)), (1, 1000, 79, 23, 3, 32))
        self.assertEqual(look(sampled(1, 1000, 0, 0)), (1, 1000, 0, 0, 2, 1))

    def test_zero_samples_after_the_first_are_samples(self):
        # After a first sample of 0 the second one is no first one.
        self.assertEqual(look(sampled(1, 1000, 0, 8)), (1, 1000, 8, 8, 2, 9))

    def test_random_samples(self):
        random = Random(3)
        for _ in range(50):
            estimate, smooth, spread = Estimate(1, 100000), None, None
            for _ in range(30):
                ticks = random.choice((0, 1, 5, 40, 10 ** 6, random.randint(0, 60)))
                estimate.sample(ticks)
                if smooth is None:
                    smooth, spread = 8 * ticks, 2 * ticks
                else:
                    error = ticks - smooth // 8
                    smooth, spread = smooth + error, spread + abs(error) - spread // 4
                self.assertEqual((estimate.smooth, estimate.spread), (smooth, spread))
                self.assertEqual(estimate.timeout, min(100000, max(1, smooth // 8 + max(1, spread))))

    def test_wrong_samples(self):
        estimate = sampled(2, 64, 5)
        before = look(estimate)
        for ticks in (-1, -10 ** 12, *NOT_INTEGERS):
            self.assertIs(caught(InvalidNumber, estimate.sample, ticks)["number"], ticks)
        self.assertEqual(look(estimate), before)


class TimeoutTest(unittest.TestCase):
    def test_without_samples(self):
        self.assertEqual([Estimate(2, 64).timeout, Estimate(2, 8).timeout, Estimate(2, 7).timeout], [8, 8, 7])
        self.assertEqual([Estimate(3, 3).timeout, Estimate(30000, 100000).timeout], [3, 100000])

    def test_both_bounds(self):
        for low, high, wanted in ((1, 64, 30), (30, 64, 30), (31, 64, 31), (1, 30, 30), (1, 29, 29), (29, 29, 29)):
            self.assertEqual(sampled(low, high, 10).timeout, wanted)
        self.assertEqual(sampled(2, 64, 10 ** 12).timeout, 64)

    def test_a_spread_of_0_counts_1(self):
        self.assertEqual(sampled(1, 64, 0).timeout, 1)
        estimate = Estimate(1, 64)
        estimate.smooth, estimate.spread, estimate.samples = 80, 0, 3
        self.assertEqual(estimate.timeout, 11)
        estimate.spread = 1
        self.assertEqual(estimate.timeout, 11)
        estimate.spread = 2
        self.assertEqual(estimate.timeout, 12)

    def test_samples_of_0_alone_lead_to_the_lower_bound(self):
        self.assertEqual(sampled(4, 64, 0, 0, 0).timeout, 4)


class BackedTest(unittest.TestCase):
    def test_backed(self):
        estimate = Estimate(2, 100000)
        self.assertEqual([estimate.backed(count) for count in range(5)], [8, 16, 32, 64, 128])
        self.assertEqual([estimate.backed(13), estimate.backed(14), estimate.backed(60)], [65536, 100000, 100000])
        self.assertEqual(sampled(1, 64, 10).backed(0), 30)
        self.assertEqual(sampled(1, 64, 10).backed(1), 60)
        self.assertEqual(sampled(1, 64, 10).backed(2), 64)
        self.assertEqual((Estimate(1, 1).backed(0), Estimate(1, 1).backed(60)), (1, 1))

    def test_wrong_counts(self):
        estimate = sampled(2, 64, 5)
        before = look(estimate)
        for count in (-1, 61, 10 ** 12, *NOT_INTEGERS):
            self.assertIs(caught(InvalidNumber, estimate.backed, count)["number"], count)
        self.assertEqual(look(estimate), before)

    def test_asking_changes_nothing(self):
        estimate = sampled(2, 64, 5)
        before = look(estimate)
        self.assertEqual((estimate.backed(3), look(estimate)), (64, before))


if __name__ == "__main__":
    unittest.main()
