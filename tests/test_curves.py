"""lossway.curves: promises 33 to 35."""

import unittest
from random import Random

from lossway.control import Climb, Control, Fixed
from lossway.curves import KINDS, Curve, Delay, control_of
from lossway.errors import InvalidNumber, InvalidSetting
from tests.test_control import GREATEST, at_threshold, look
from tests.values import NOT_INTEGERS, NOT_STRINGS, Same, caught


def born(unit, peak, window, span, when):
    """A curve in the midst of its life."""
    curve = at_threshold(Curve, unit, window)
    curve.peak, curve.span, curve.born = peak, span, when
    return curve


class CurveTest(unittest.TestCase):
    def test_a_new_curve(self):
        curve = Curve(4)
        self.assertEqual((curve.peak, curve.span, curve.born), (0, 0, None))

    def test_it_climbs_as_long_as_it_is_not_born(self):
        curve, climb = at_threshold(Curve, 4, 8), at_threshold(Climb, 4, 8)
        for count in (7, 1, 39, 3, 65535):
            curve.grow(count, 5)
            climb.grow(count, 5)
            self.assertEqual(look(curve), look(climb))

    def test_loss(self):
        curve = at_threshold(Curve, 4, 100)
        curve.credit = 9
        curve.on_loss(12, 17)
        # 64 * (100 - 70) = 1920 = 4 * 480, and 8 ** 3 is the first cube from 480 on.
        self.assertEqual(look(curve), (4, 70, 70, 0, False))
        self.assertEqual((curve.peak, curve.span, curve.born), (100, 8, 17))

    def test_a_later_loss(self):
        curve = born(4, 100, 70, 8, 17)
        curve.window = 101
        curve.on_loss(0, 30)
        self.assertEqual((curve.peak, curve.window, curve.threshold, curve.born), (101, 70, 70, 30))
        # 64 * 31 = 1984 = 4 * 496.
        self.assertEqual(curve.span, 8)

    def test_a_loss_of_a_small_window(self):
        for window, after, span in ((8, 8, 0), (4, 8, 0), (10, 8, 4), (11, 8, 4), (12, 8, 4), (13, 9, 4)):
            curve = at_threshold(Curve, 4, window)
            curve.on_loss(10 ** 6, 3)
            self.assertEqual((curve.peak, curve.window, curve.threshold, curve.span), (window, after, after, span))

    def test_the_span_is_the_least(self):
        for unit in (1, 2, 3, 64, 1400):
            for window in (2 * unit, 3 * unit, 10 * unit, 1000, 5000, GREATEST):
                curve = at_threshold(Curve, unit, window)
                curve.on_loss(0, 0)
                fall = 64 * (window - curve.window)
                self.assertGreaterEqual(unit * curve.span ** 3, fall)
                self.assertTrue(curve.span == 0 or unit * (curve.span - 1) ** 3 < fall)
        # A fall of 1 byte at unit 1 needs exactly 4 ticks; one of 8 bytes needs exactly 8.
        for window, lower, span in ((3, 2, 4), (27, 18, 9), (26, 18, 8)):
            curve = at_threshold(Curve, 1, window)
            curve.on_loss(0, 0)
            self.assertEqual((curve.window, curve.span), (lower, span))

    def test_growth_below_at_and_above_the_span(self):
        for now, target in ((17, 68), (18, 78), (21, 96), (24, 99), (25, 100), (26, 100), (28, 101), (29, 104)):
            curve = born(4, 100, 50, 8, 17)
            curve.credit = 3
            curve.grow(65535, now)
            self.assertEqual((curve.window, curve.credit), (target, 3), now)

    def test_the_product_is_divided_rounding_down(self):
        # 4 * (-7) ** 3 // 64 is -22 if it is rounded down, and 4 * ((-7) ** 3 // 64) would be -24.
        curve = born(4, 100, 50, 8, 17)
        curve.grow(65535, 18)
        self.assertEqual(curve.window, 78)

    def test_growth_is_at_most_what_was_acknowledged(self):
        curve = born(4, 100, 50, 8, 17)
        curve.grow(5, 25)
        self.assertEqual(curve.window, 55)
        curve.grow(44, 25)
        self.assertEqual(curve.window, 99)
        curve.grow(44, 25)
        self.assertEqual(curve.window, 100)

    def test_a_window_at_and_above_the_target_stays(self):
        for window in (68, 69, 100, 101, 5000):
            curve = born(4, 100, window, 8, 17)
            curve.grow(65535, 17)
            self.assertEqual(curve.window, window)

    def test_the_greatest_window(self):
        curve = born(4, GREATEST, GREATEST - 3, 8, 17)
        curve.grow(2, 17 + 50)
        self.assertEqual(curve.window, GREATEST - 1)
        curve.grow(2, 17 + 50)
        self.assertEqual(curve.window, GREATEST)
        curve.grow(2, 17 + 5000)
        self.assertEqual(curve.window, GREATEST)

    def test_on_ack_grows_along_the_curve(self):
        curve = born(4, 100, 70, 8, 17)
        curve.on_ack(6, 60, 25)
        self.assertEqual(curve.window, 76)
        curve.on_ack(6, 10, 25)
        self.assertEqual(curve.window, 76)
        curve.threshold = 77
        curve.on_ack(6, 60, 25)
        self.assertEqual(curve.window, 80)

    def test_expiry(self):
        curve = born(4, 100, 70, 8, 17)
        curve.credit = 3
        curve.on_expiry(60, 20)
        self.assertEqual(look(curve), (4, 4, 30, 0, True))
        self.assertEqual((curve.peak, curve.span, curve.born), (70, 8, None))
        curve.on_expiry(90, 40)
        self.assertEqual(look(curve), (4, 4, 30, 0, True))
        self.assertEqual((curve.peak, curve.born), (4, None))
        curve.window = 30
        curve.grow(30, 41)
        self.assertEqual((curve.window, curve.credit), (34, 0))

    def test_time_0_is_a_birth(self):
        curve = at_threshold(Curve, 4, 100)
        curve.on_loss(0, 0)
        self.assertEqual(curve.born, 0)
        curve.grow(65535, 8)
        self.assertEqual(curve.window, 100)

    def test_wrong_counts(self):
        curve = born(4, 100, 50, 8, 17)
        before = vars(curve).copy()
        for count in (0, -1, 65536, *NOT_INTEGERS):
            self.assertIs(caught(InvalidNumber, curve.grow, count, 25)["number"], count)
            self.assertIs(caught(InvalidNumber, curve.on_ack, count, 60, 25)["number"], count)
        self.assertEqual(vars(curve), before)

    def test_samples_change_nothing(self):
        curve = born(4, 100, 70, 8, 17)
        before = vars(curve).copy()
        curve.on_sample(9)
        self.assertEqual(vars(curve), before)

    def test_random_growth(self):
        random = Random(8)
        for _ in range(200):
            unit, peak, span = random.randint(1, 20), random.randint(1, 400), random.randint(0, 12)
            window, when = random.randint(1, 400), random.randint(0, 9)
            curve = born(unit, peak, window, span, when)
            count, now = random.randint(1, 90), when + random.randint(0, 30)
            curve.grow(count, now)
            target = peak + (unit * (now - when - span) ** 3) // 64
            self.assertEqual(curve.window, min(window + count, max(window, target)))


def delayed(window, least, latest, unit=4):
    delay = at_threshold(Delay, unit, window)
    delay.on_sample(least)
    delay.on_sample(latest)
    return delay


class DelayTest(unittest.TestCase):
    def test_a_new_delay(self):
        delay = Delay(4)
        self.assertEqual((delay.least, delay.latest, delay.samples), (0, 0, 0))

    def test_samples(self):
        delay = Delay(4)
        for ticks, least in ((9, 9), (12, 9), (9, 9), (5, 5), (8, 5), (0, 0), (7, 0)):
            self.assertIsNone(delay.on_sample(ticks))
            self.assertEqual((delay.latest, delay.least), (ticks, least))
        self.assertEqual(delay.samples, 7)
        self.assertEqual(look(delay), look(Delay(4)))

    def test_a_first_sample_of_0_is_the_least(self):
        delay = Delay(4)
        delay.on_sample(0)
        delay.on_sample(6)
        self.assertEqual((delay.least, delay.latest, delay.samples), (0, 6, 2))

    def test_without_a_surplus_it_climbs(self):
        for delay in (at_threshold(Delay, 4, 8), delayed(8, 5, 5), delayed(8, 0, 0)):
            climb = at_threshold(Climb, 4, 8)
            for count in (7, 1, 39, 3, 65535):
                delay.grow(count, 5)
                climb.grow(count, 5)
                self.assertEqual(look(delay), look(climb))

    def test_the_surplus(self):
        # With a least time of 60 out of 100 the surplus is 40 of 100 bytes.
        for window, after in ((17, 21), (18, 22), (19, 23), (20, 20), (30, 30), (42, 42), (43, 39), (100, 96)):
            delay = delayed(window, 60, 100)
            delay.grow(window, 1)
            self.assertEqual((delay.window, delay.credit), (after, 0), window)

    def test_the_bounds_of_the_surplus(self):
        # The whole window is surplus: 8 = 2 * unit stays, 16 = 4 * unit stays, 17 falls.
        for window, after in ((7, 11), (8, 8), (16, 16), (17, 13), (18, 14)):
            delay = delayed(window, 0, 9)
            delay.grow(window, 1)
            self.assertEqual(delay.window, after)

    def test_it_falls_to_two_units_at_least(self):
        delay = delayed(25, 0, 9, unit=6)
        delay.grow(25, 1)
        self.assertEqual(delay.window, 19)
        delay = delayed(5, 0, 9, unit=1)
        for window in (4, 4, 4):
            delay.grow(delay.window, 1)
            self.assertEqual(delay.window, window)
        # Below two units the surplus is below them, too, so that the window grows.
        delay = delayed(4, 0, 9)
        delay.grow(4, 1)
        self.assertEqual(delay.window, 8)

    def test_several_steps_in_one_call(self):
        delay = delayed(26, 0, 9)
        # 26 and 22 and 18 are paid, then the window stays at 14, which is paid twice.
        delay.grow(26 + 22 + 18 + 14 + 14 + 5, 1)
        self.assertEqual((delay.window, delay.credit), (14, 5))

    def test_samples_that_sink(self):
        delay = delayed(100, 50, 100)
        delay.grow(100, 1)
        self.assertEqual(delay.window, 96)
        delay.on_sample(40)
        delay.grow(96, 1)
        self.assertEqual((delay.window, delay.least, delay.latest), (100, 40, 40))

    def test_the_greatest_window(self):
        delay = at_threshold(Delay, 100, GREATEST - 50)
        delay.credit = GREATEST - 51
        delay.grow(1, 1)
        self.assertEqual((delay.window, delay.credit), (GREATEST, 0))

    def test_at_the_start_it_does_not_look_at_the_delay(self):
        delay = delayed(100, 0, 9)
        delay.threshold = 101
        delay.on_ack(4, 100, 1)
        self.assertEqual(delay.window, 104)
        delay.on_ack(65535, 100, 1)
        self.assertLess(delay.window, 104)


class ControlOfTest(unittest.TestCase):
    def test_the_kinds(self):
        self.assertEqual(KINDS, ("fixed", "climb", "curve", "delay"))
        self.assertIs(KINDS.__class__, tuple)
        for kind, wanted in zip(KINDS, (Fixed, Climb, Curve, Delay)):
            control = control_of(kind, 5)
            self.assertIs(control.__class__, wanted)
            self.assertEqual(vars(control), vars(wanted(5)))
            self.assertIsNot(control_of(kind, 5), control)
        self.assertEqual(control_of("fixed", 5).window, 40)

    def test_wrong_kinds(self):
        for kind in ("", "base", "Climb", "climb ", Control, Climb, Climb(4), Same(), *NOT_STRINGS):
            self.assertEqual(caught(InvalidSetting, control_of, kind, 5), {"setting": "control"})
            self.assertEqual(caught(InvalidSetting, control_of, kind, 0), {"setting": "control"})

    def test_wrong_units(self):
        for kind in KINDS:
            for unit in (0, 65536, True, "5", None):
                self.assertEqual(caught(InvalidSetting, control_of, kind, unit), {"setting": "unit"})


if __name__ == "__main__":
    unittest.main()
