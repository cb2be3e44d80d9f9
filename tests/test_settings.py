"""lossway.settings: promise 36."""

import unittest

from lossway.errors import InvalidSetting
from lossway.settings import Settings
from tests.values import NOT_INTEGERS, NOT_STRINGS, Same, caught

DEFAULTS = (
    ("size", 1024), ("inbox", 64), ("outbox", 64), ("piece", 8), ("least", 4), ("control", "climb"), ("low", 2),
    ("high", 64), ("tries", 6), ("life", 8), ("delay", 1), ("join", True), ("tell", True), ("seek", False),
    ("alive", 0), ("rest", 64), ("fresh", 64),
)
NAMES = tuple([name for name, _ in DEFAULTS])
# What the default of another choice would not allow is passed beside it.
ENDS = (
    ("inbox", 1, 65535, {"size": 262144}), ("outbox", 1, 65535, {}), ("piece", 1, 1400, {"least": 1}),
    ("least", 1, 8, {}), ("low", 1, 100000, {"high": 100000}), ("high", 2, 100000, {}), ("tries", 1, 60, {}),
    ("life", 1, 1000, {}), ("delay", 0, 1000, {}), ("alive", 0, 100000, {}), ("rest", 1, 100000, {}),
    ("fresh", 1, 100000, {}),
)


def setting(**choices):
    return caught(InvalidSetting, Settings, **choices)["setting"]


class SettingsTest(unittest.TestCase):
    def test_defaults(self):
        settings = Settings()
        for name, value in DEFAULTS:
            self.assertEqual(getattr(settings, name), value)
            self.assertIs(getattr(settings, name).__class__, value.__class__)
        self.assertEqual(settings.row(), tuple([value for _, value in DEFAULTS]))
        self.assertIs(settings.row().__class__, tuple)

    def test_both_ends_of_each_range(self):
        for name, low, high, others in ENDS:
            for value in (low, high):
                self.assertEqual(getattr(Settings(**{**others, name: value}), name), value)
            for value in (low - 1, high + 1, -1, 10 ** 12, *NOT_INTEGERS):
                self.assertEqual(setting(**{**others, name: value}), name, value)

    def test_sizes(self):
        for bits in range(6, 33):
            settings = Settings(size=2 ** bits, inbox=16)
            self.assertEqual(settings.size, 2 ** bits)
        for size in (0, 1, 32, 63, 65, 96, 1000, 4294967295, 4294967297, 2 ** 33, -64, *NOT_INTEGERS):
            self.assertEqual(setting(size=size), "size", size)

    def test_the_inbox_is_at_most_a_quarter_of_the_ring(self):
        for size in (64, 256, 1024, 131072):
            self.assertEqual(Settings(size=size, inbox=size // 4).inbox, size // 4)
            self.assertEqual(setting(size=size, inbox=size // 4 + 1), "inbox")
        self.assertEqual(setting(size=4294967296, inbox=65536), "inbox")

    def test_controls(self):
        for control in ("fixed", "climb", "curve", "delay"):
            self.assertEqual(Settings(control=control).control, control)
        for control in ("base", "", "Climb", "climb ", Same(), *NOT_STRINGS):
            self.assertEqual(setting(control=control), "control", control)

    def test_true_and_false(self):
        for name in ("join", "tell", "seek"):
            for value in (True, False):
                self.assertIs(getattr(Settings(**{name: value}), name), value)
            for value in (1, 0, None, "True", "", [], 1.0, Same()):
                self.assertEqual(setting(**{name: value}), name)

    def test_a_default_that_another_choice_makes_invalid(self):
        self.assertEqual(setting(size=64), "inbox")
        self.assertEqual(setting(size=128), "inbox")
        self.assertEqual(Settings(size=256).inbox, 64)
        self.assertEqual(setting(piece=3), "least")
        self.assertEqual(Settings(piece=4).least, 4)
        self.assertEqual(setting(low=65), "high")
        self.assertEqual(Settings(low=64).high, 64)
        self.assertEqual(setting(high=1), "high")

    def test_unknown_names(self):
        self.assertEqual(setting(sizes=64), "sizes")
        self.assertEqual(setting(size=63, zeta=1, alpha=2), "zeta")
        self.assertEqual(setting(alpha=1, size=63, zeta=2), "alpha")
        self.assertEqual(setting(row=()), "row")
        self.assertEqual(setting(Size=64), "Size")

    def test_a_keyword_self_is_refused_by_python(self):
        with self.assertRaises(TypeError):
            Settings(**{"self": 5})
        with self.assertRaises(TypeError):
            Settings().changed(**{"self": 5})
        with self.assertRaises(TypeError):
            Settings(64)

    def test_the_first_of_the_table_decides(self):
        wrong = {name: None for name in reversed(NAMES)}
        for name in NAMES:
            self.assertEqual(setting(**wrong), name)
            del wrong[name]
        self.assertEqual(setting(fresh=0, low=0), "low")
        self.assertEqual(setting(least=9, piece=1401), "piece")

    def test_changed(self):
        settings = Settings(size=256, piece=6, tell=False)
        other = settings.changed(piece=5, control="delay")
        self.assertEqual(other.row(), Settings(size=256, piece=5, tell=False, control="delay").row())
        self.assertEqual(settings.row(), Settings(size=256, piece=6, tell=False).row())
        same = settings.changed()
        self.assertEqual(same, settings)
        self.assertIsNot(same, settings)

    def test_changed_raises_the_same_errors(self):
        settings = Settings(size=256, piece=6)
        before = settings.row()
        for choices, name in (
            ({"zeta": 1, "size": 63}, "zeta"), ({"size": 128}, "inbox"), ({"piece": 3}, "least"),
            ({"least": 7}, "least"), ({"high": 1, "piece": 0}, "piece"), ({"tell": 1}, "tell"),
            ({"piece": 5, "x": 1, "a": 1}, "x"),
        ):
            self.assertEqual(caught(InvalidSetting, settings.changed, **choices), {"setting": name})
        self.assertEqual(settings.row(), before)

    def test_equality(self):
        self.assertTrue(Settings() == Settings(size=1024))
        self.assertFalse(Settings() != Settings())
        for name, value in (("size", 512), ("control", "fixed"), ("join", False), ("fresh", 63)):
            self.assertFalse(Settings() == Settings(**{name: value}))
            self.assertTrue(Settings() != Settings(**{name: value}))
        for other in (Settings().row(), None, 1024, "climb", {}, object()):
            self.assertFalse(Settings() == other)

    def test_passed_choices_are_not_changed(self):
        choices = {"piece": 6, "size": 256}
        settings = Settings(**choices)
        self.assertEqual(choices, {"piece": 6, "size": 256})
        choices["piece"] = 5
        self.assertEqual(settings.piece, 6)


if __name__ == "__main__":
    unittest.main()
