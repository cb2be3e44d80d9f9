"""lossway.control: promises 29 to 32, and what 30 says of all controls."""

import unittest

from lossway.control import Climb, Control, Fixed
from lossway.curves import Curve, Delay
from lossway.errors import InvalidNumber, InvalidSetting
from tests.values import NOT_INTEGERS, caught

GREATEST = 4194304
ALL = (Control, Fixed, Climb, Curve, Delay)
METHODS = ("on_ack", "grow", "on_loss", "on_expiry", "on_sample")


def look(control):
    return (control.unit, control.window, control.threshold, control.credit, control.stalled)


def at_threshold(kind, unit, window):
    """A control whose window is its threshold."""
    control = kind(unit)
    control.window = control.threshold = window
    return control


class AllControlsTest(unittest.TestCase):
    def test_a_new_control(self):
        for kind in (Control, Climb, Curve, Delay):
            for unit in (1, 8, 65535):
                control = kind(unit)
                self.assertEqual(look(control), (unit, 2 * unit, GREATEST, 0, False))
                self.assertIs(control.starting, True)
                self.assertIs(control.stalled, False)

    def test_the_kinds(self):
        self.assertEqual([kind.KIND for kind in ALL], ["base", "fixed", "climb", "curve", "delay"])
        self.assertEqual([kind.GREATEST for kind in ALL], [GREATEST] * 5)
        for kind in ALL:
            self.assertTrue(issubclass(kind, Control))
            self.assertIsInstance(kind(5), Control)
        self.assertTrue(issubclass(Curve, Climb) and issubclass(Delay, Climb))

    def test_all_methods_stand_in_each_class(self):
        for kind in ALL:
            for name in METHODS:
                self.assertIn(name, vars(kind), kind)

    def test_wrong_units(self):
        for kind in ALL:
            for unit in (0, -1, 65536, 10 ** 12, *NOT_INTEGERS):
                self.assertEqual(caught(InvalidSetting, kind, unit), {"setting": "unit"})

    def test_wrong_counts(self):
        for kind in ALL:
            control = kind(8)
            control.on_expiry(40, 1)
            before = vars(control).copy()
            for count in (0, -1, 65536, 10 ** 12, *NOT_INTEGERS):
                self.assertIs(caught(InvalidNumber, control.on_ack, count, 0, 2)["number"], count)
                self.assertIs(caught(InvalidNumber, control.grow, count, 2)["number"], count)
                self.assertEqual(vars(control), before)
            self.assertTrue(control.stalled)
            for count in (1, 65535):
                self.assertIsNone(control.grow(count, 2))
                self.assertIsNone(control.on_ack(count, 0, 3))

    def test_nothing_is_returned(self):
        for kind in ALL:
            control = kind(8)
            self.assertIsNone(control.on_loss(40, 1))
            self.assertIsNone(control.on_expiry(40, 1))
            self.assertIsNone(control.on_sample(4))

    def test_an_acknowledgement_ends_the_stall(self):
        for kind in ALL:
            control = kind(8)
            control.on_expiry(40, 1)
            self.assertIs(control.stalled, True)
            control.on_ack(1, 0, 2)
            self.assertIs(control.stalled, False)

    def test_starting(self):
        for kind in ALL:
            control = at_threshold(kind, 4, 40)
            for window, wanted in ((39, True), (40, False), (41, False)):
                control.window = window
                self.assertIs(control.starting, wanted)

    def test_growth_at_the_start(self):
        for kind in (Control, Climb, Curve, Delay):
            control = kind(4)
            for count, window in ((1, 9), (3, 12), (4, 16), (5, 20), (65535, 24)):
                control.on_ack(count, 24, 1)
                self.assertEqual(look(control), (4, window, GREATEST, 0, False))

    def test_a_window_that_is_not_half_in_use_stays(self):
        for kind in (Control, Climb, Curve, Delay):
            control = kind(8)
            control.window = 40
            control.stalled = True
            control.on_ack(4, 15, 1)
            self.assertEqual(look(control), (8, 40, GREATEST, 0, False))
            control.on_ack(4, 16, 1)
            self.assertEqual(control.window, 44)
            control = at_threshold(kind, 8, 41)
            control.on_ack(10, 10, 1)
            self.assertEqual(look(control), (8, 41, 41, 0, False))

    def test_below_at_and_above_the_threshold(self):
        for kind in (Climb, Curve, Delay):
            control = at_threshold(kind, 4, 40)
            control.window = 39
            control.on_ack(4, 40, 1)
            self.assertEqual(look(control), (4, 43, 40, 0, False))
            control.on_ack(4, 40, 1)
            self.assertEqual(look(control), (4, 43, 40, 4, False))
            control.window = 40
            control.on_ack(4, 40, 1)
            self.assertEqual(look(control), (4, 40, 40, 8, False))

    def test_the_greatest_window_at_the_start(self):
        for kind in (Control, Climb, Curve, Delay):
            control = kind(10)
            control.window = GREATEST - 10
            control.threshold = GREATEST + 50
            control.on_ack(10, GREATEST, 1)
            self.assertEqual(control.window, GREATEST)
            control.window = GREATEST - 9
            control.on_ack(10, GREATEST, 1)
            self.assertEqual(control.window, GREATEST)
            self.assertIs(control.starting, True)
            control.on_ack(10, GREATEST, 1)
            self.assertEqual(control.window, GREATEST)

    def test_expiry(self):
        for kind in (Control, Climb, Curve, Delay):
            control = at_threshold(kind, 4, 40)
            control.credit = 7
            control.on_expiry(41, 5)
            self.assertEqual(look(control), (4, 4, 20, 0, True))
            control.window, control.credit = 30, 3
            control.on_expiry(99, 6)
            self.assertEqual(look(control), (4, 4, 20, 0, True))
            control.on_ack(1, 3, 7)
            control.on_expiry(99, 8)
            self.assertEqual(look(control), (4, 4, 49, 0, True))

    def test_expiry_with_a_small_flight(self):
        for kind in (Control, Climb, Curve, Delay):
            for flight, threshold in ((0, 8), (15, 8), (17, 8), (18, 9), (10 ** 8, 5 * 10 ** 7)):
                control = kind(4)
                control.on_expiry(flight, 5)
                self.assertEqual(look(control), (4, 4, threshold, 0, True))

    def test_loss(self):
        for kind in (Control, Climb, Delay):
            for flight, threshold in ((0, 8), (15, 8), (17, 8), (18, 9), (100, 50), (2 * GREATEST, GREATEST)):
                control = kind(4)
                control.window, control.credit, control.stalled = 60, 7, True
                control.on_loss(flight, 5)
                self.assertEqual(look(control), (4, threshold, threshold, 0, True))
                self.assertIs(control.starting, False)

    def test_a_threshold_above_the_greatest_window(self):
        for kind in (Control, Climb, Delay):
            control = kind(4)
            control.on_loss(2 * GREATEST + 2, 5)
            self.assertEqual((control.window, control.threshold), (GREATEST, GREATEST + 1))
            self.assertIs(control.starting, True)


class ControlTest(unittest.TestCase):
    def test_the_base_does_not_grow_above_the_threshold(self):
        control = at_threshold(Control, 4, 40)
        control.grow(65535, 1)
        control.on_ack(4, 40, 1)
        control.on_sample(9)
        self.assertEqual(look(control), (4, 40, 40, 0, False))

    def test_a_subclass_is_asked_to_grow(self):
        asked = []

        class Asked(Control):
            def grow(self, count, now):
                asked.append((count, now))

        control = at_threshold(Asked, 4, 40)
        control.on_ack(5, 40, 17)
        control.on_ack(5, 14, 18)
        control.window = 39
        control.on_ack(5, 40, 19)
        self.assertEqual(asked, [(5, 17)])


class FixedTest(unittest.TestCase):
    def test_the_window(self):
        self.assertEqual(look(Fixed(4)), (4, 32, GREATEST, 0, False))
        self.assertEqual(look(Fixed(4, 1)), (4, 4, GREATEST, 0, False))
        self.assertEqual(look(Fixed(65535, pieces=64)), (65535, 65535 * 64, GREATEST, 0, False))

    def test_the_number_of_pieces_is_not_kept(self):
        self.assertEqual(sorted(vars(Fixed(4, 5))), sorted(vars(Control(4))))

    def test_wrong_pieces(self):
        for pieces in (0, -1, 65, 10 ** 12, *NOT_INTEGERS):
            self.assertEqual(caught(InvalidSetting, Fixed, 4, pieces), {"setting": "pieces"})
            self.assertEqual(caught(InvalidSetting, Fixed, 0, pieces), {"setting": "unit"})

    def test_nothing_moves_the_window(self):
        control = Fixed(4, 3)
        control.on_ack(65535, 99, 1)
        control.grow(65535, 1)
        control.on_loss(99, 1)
        control.on_sample(7)
        self.assertEqual(look(control), (4, 12, GREATEST, 0, False))
        control.on_expiry(99, 1)
        self.assertEqual(look(control), (4, 12, GREATEST, 0, True))
        control.on_loss(99, 2)
        control.grow(3, 2)
        control.on_sample(7)
        self.assertEqual(look(control), (4, 12, GREATEST, 0, True))
        control.on_ack(1, 0, 2)
        self.assertEqual(look(control), (4, 12, GREATEST, 0, False))


class ClimbTest(unittest.TestCase):
    def test_example(self):
        climb = Climb(4)
        self.assertIsNone(climb.on_ack(4, 4, 1))
        grown = climb.window
        climb.on_loss(12, 2)
        climb.on_ack(4, 4, 3)
        climb.on_ack(4, 4, 4)
        self.assertEqual([grown, climb.threshold, climb.window, climb.credit], [12, 8, 12, 0])

    def test_credit(self):
        climb = at_threshold(Climb, 4, 40)
        for count, window, credit in ((39, 40, 39), (1, 44, 0), (43, 44, 43), (2, 48, 1), (48, 52, 1)):
            climb.grow(count, 1)
            self.assertEqual((climb.window, climb.credit), (window, credit))

    def test_several_steps_in_one_call(self):
        climb = at_threshold(Climb, 4, 8)
        # 8, then 12, then 16 are paid from 39.
        climb.grow(39, 1)
        self.assertEqual((climb.window, climb.credit), (20, 3))

    def test_grow_does_not_ask_for_the_threshold(self):
        climb = Climb(4)
        climb.grow(8, 1)
        self.assertEqual(look(climb), (4, 12, GREATEST, 0, False))

    def test_the_greatest_window(self):
        climb = at_threshold(Climb, 100, GREATEST - 150)
        climb.credit = GREATEST - 151
        climb.grow(1, 1)
        self.assertEqual((climb.window, climb.credit), (GREATEST - 50, 0))
        climb.credit = GREATEST - 51
        climb.grow(2, 1)
        self.assertEqual((climb.window, climb.credit), (GREATEST, 1))
        climb.credit = 2 * GREATEST - 1
        climb.grow(7, 1)
        self.assertEqual((climb.window, climb.credit), (GREATEST, 6))

    def test_samples_change_nothing(self):
        climb = at_threshold(Climb, 4, 40)
        before = vars(climb).copy()
        climb.on_sample(9)
        self.assertEqual(vars(climb), before)


if __name__ == "__main__":
    unittest.main()
