"""lossway.alarms: promise 27."""

import unittest
from itertools import permutations

from lossway.alarms import ALARMS, Alarms
from lossway.errors import InvalidNumber, InvalidSetting
from tests.values import NOT_INTEGERS, NOT_STRINGS, Same, caught

NAMES = ("resend", "probe", "delay", "pace", "alive", "rest")
WRONG_NAMES = ("", "Resend", "resend ", "res", 0, -1, Same(), *NOT_STRINGS)


def look(alarms):
    return ([alarms.when(name) for name in NAMES], [name in alarms for name in NAMES], len(alarms), alarms.soonest(),
            alarms.due(10 ** 12))


def armed(**times):
    alarms = Alarms()
    for name, when in times.items():
        alarms.arm(name, when)
    return alarms


class AlarmsTest(unittest.TestCase):
    def test_example(self):
        alarms = Alarms()
        self.assertIsNone(alarms.arm("rest", 5))
        alarms.arm("resend", 5)
        alarms.arm("delay", 3)
        found = [alarms.due(5), alarms.soonest(), len(alarms), "pace" in alarms]
        self.assertEqual(found, [["delay", "resend", "rest"], 3, 3, False])

    def test_the_names(self):
        self.assertEqual(ALARMS, NAMES)
        self.assertIs(ALARMS.__class__, tuple)

    def test_no_alarm(self):
        alarms = Alarms()
        self.assertEqual(look(alarms), ([None] * 6, [False] * 6, 0, None, []))
        self.assertEqual((alarms.due(0), alarms.due(99)), ([], []))

    def test_arm_sets_and_replaces(self):
        alarms = armed(pace=7)
        self.assertEqual((alarms.when("pace"), "pace" in alarms, len(alarms)), (7, True, 1))
        for when in (9, 0, 10 ** 12, 9):
            alarms.arm("pace", when)
            self.assertEqual((alarms.when("pace"), alarms.soonest(), len(alarms)), (when, when, 1))
        self.assertEqual((alarms.due(8), alarms.due(9)), ([], ["pace"]))

    def test_disarm(self):
        alarms = armed(pace=7, rest=8)
        self.assertIsNone(alarms.disarm("pace"))
        self.assertEqual((alarms.when("pace"), "pace" in alarms, len(alarms), alarms.soonest()), (None, False, 1, 8))
        before = look(alarms)
        self.assertIsNone(alarms.disarm("pace"))
        self.assertIsNone(alarms.disarm("probe"))
        self.assertEqual(look(alarms), before)
        alarms.disarm("rest")
        self.assertEqual(look(alarms), look(Alarms()))

    def test_each_object_has_its_own_times(self):
        one, other = Alarms(), Alarms()
        one.arm("pace", 3)
        self.assertEqual(len(other), 0)

    def test_due(self):
        alarms = armed(resend=5, probe=0, pace=9, rest=4)
        for now, wanted in ((0, ["probe"]), (3, ["probe"]), (4, ["probe", "rest"]), (5, ["probe", "rest", "resend"]),
                            (8, ["probe", "rest", "resend"]), (9, ["probe", "rest", "resend", "pace"])):
            self.assertEqual(alarms.due(now), wanted)
        self.assertEqual(len(alarms), 4)

    def test_equal_times_have_the_order_of_the_names(self):
        for order in permutations(NAMES):
            alarms = Alarms()
            for name in order:
                alarms.arm(name, 5)
            self.assertEqual(alarms.due(5), list(NAMES))
            alarms.arm("alive", 4)
            self.assertEqual(alarms.due(5), ["alive", "resend", "probe", "delay", "pace", "rest"])

    def test_what_is_returned_is_fresh(self):
        alarms = armed(resend=5)
        alarms.due(5).clear()
        self.assertEqual(alarms.due(5), ["resend"])

    def test_soonest(self):
        alarms = armed(resend=5, rest=0, pace=3)
        self.assertEqual(alarms.soonest(), 0)
        alarms.disarm("rest")
        self.assertEqual(alarms.soonest(), 3)

    def test_wrong_names(self):
        alarms = armed(resend=5, rest=2)
        before = look(alarms)
        for name in WRONG_NAMES:
            self.assertIs(caught(InvalidSetting, alarms.arm, name, 5)["setting"], name)
            self.assertIs(caught(InvalidSetting, alarms.arm, name, -1)["setting"], name)
            self.assertIs(caught(InvalidSetting, alarms.disarm, name)["setting"], name)
            self.assertIs(caught(InvalidSetting, alarms.when, name)["setting"], name)
            self.assertIs(name in alarms, False)
        self.assertEqual(look(alarms), before)

    def test_wrong_times(self):
        alarms = armed(resend=5, rest=2)
        before = look(alarms)
        for when in (-1, -10 ** 12, *NOT_INTEGERS):
            self.assertIs(caught(InvalidNumber, alarms.arm, "resend", when)["number"], when)
            self.assertIs(caught(InvalidNumber, alarms.arm, "pace", when)["number"], when)
        self.assertEqual(look(alarms), before)


if __name__ == "__main__":
    unittest.main()
