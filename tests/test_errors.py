"""lossway.errors: the classes, what stands below what, and their attributes."""

import unittest

from lossway import errors
from lossway.errors import InvalidWords, LossError, WrongSum

ATTRIBUTES = {
    "InvalidNumber": ("number",),
    "InvalidSetting": ("setting",),
    "InvalidSegment": ("part",),
    "InvalidWords": ("place",),
    "NotAllowed": ("state",),
    "Broken": ("reason",),
    "NoConnection": ("handle",),
    "NoListener": ("port",),
    "PortTaken": ("port",),
    "StationDown": (),
    "TooMany": ("most",),
    "InvalidFate": ("side", "place"),
    "InvalidTrace": ("place",),
    "InvalidDeed": ("deed",),
    "NothingLeft": (),
    "Stopped": ("place",),
    "InvalidLine": ("line",),
}


class ErrorsTest(unittest.TestCase):
    def test_base_is_a_value_error(self):
        self.assertEqual(LossError.__bases__, (ValueError,))

    def test_each_class_stands_directly_under_the_base(self):
        for name in ATTRIBUTES:
            self.assertEqual(getattr(errors, name).__bases__, (LossError,), name)

    def test_attributes_are_passed_by_position(self):
        for name, attributes in ATTRIBUTES.items():
            values = [object() for _ in attributes]
            error = getattr(errors, name)(*values)
            self.assertEqual(vars(error), dict(zip(attributes, values)), name)

    def test_attributes_may_have_any_value(self):
        for value in (None, "size", -1, [1, [2]], {"a": 1}, 10 ** 5000):
            for name, attributes in ATTRIBUTES.items():
                error = getattr(errors, name)(*[value for _ in attributes])
                self.assertEqual(list(vars(error).values()), [value for _ in attributes], name)

    def test_wrong_sum_is_an_invalid_words(self):
        self.assertEqual(WrongSum.__bases__, (InvalidWords,))
        self.assertEqual(vars(WrongSum(17)), {"place": 17})

    def test_each_error_is_caught_by_its_name_and_by_the_base(self):
        for name, attributes in ATTRIBUTES.items():
            kind = getattr(errors, name)
            for wanted in (kind, LossError, ValueError):
                with self.assertRaises(wanted):
                    raise kind(*attributes)

    def test_all_classes_are_defined_in_the_module(self):
        for name in (*ATTRIBUTES, "LossError", "WrongSum"):
            self.assertEqual(getattr(errors, name).__module__, "lossway.errors")


if __name__ == "__main__":
    unittest.main()
