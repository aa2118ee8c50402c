"""[2]: the error classes, their fields, their told() and their base class."""

import unittest

from anymethod import errors
from anymethod.ratios import Ratio

# As the interface lists them.
FIELDS = {
    "NoRatio": ("word",), "NoQuestion": ("word",), "OtherEffects": (), "NoWorld": (), "NoSuch": ("name",),
    "NoRun": ("word",), "NoName": ("name",), "Full": ("number",), "Twice": ("name",), "NoStep": ("place",),
    "NoWild": (), "NoMethod": (), "NoWeights": ("word",), "NoReadings": ("name",), "Clash": (), "Unbounded": (),
    "NoOffer": ("place", "word"), "NoGoal": ("word",), "NoGoals": ("place",), "NoFactor": ("effect",),
    "NoTable": ("effect",), "NoOrder": (), "BadText": ("place",), "BadLine": ("line", "word"),
    "NoCommand": ("place",), "NoUndo": (), "NoRedo": (), "NoBudget": ("word",), "NoCourse": ("place",),
    "NoErrors": ("name",), "NoCount": (),
}


class ErrorTest(unittest.TestCase):
    def test_list_is_complete(self):
        classes = {name for name, value in vars(errors).items() if isinstance(value, type)}
        self.assertEqual(classes, set(FIELDS) | {"MethodError"})
        self.assertEqual(len(FIELDS), 31)

    def test_base_classes(self):
        self.assertEqual(errors.MethodError.__bases__, (ValueError,))
        for name in FIELDS:
            self.assertEqual(getattr(errors, name).__bases__, (errors.MethodError,), name)

    def test_defined_in_errors(self):
        for name in [*FIELDS, "MethodError"]:
            self.assertEqual(getattr(errors, name).__module__, "anymethod.errors")

    def test_fields_in_the_order_of_the_arguments(self):
        for name, fields in FIELDS.items():
            given = [f"value {place}" for place in range(len(fields))]
            error = getattr(errors, name)(*given)
            self.assertEqual([getattr(error, field) for field in fields], given, name)
            by_keyword = getattr(errors, name)(**dict(zip(fields, given)))
            self.assertEqual([getattr(by_keyword, field) for field in fields], given, name)

    def test_errors_keep_what_they_are_given(self):
        for given in (None, -1, True, ["a"], {"a": 1}, Ratio(1, 2), ("a", 1)):
            self.assertIs(errors.NoSuch(given).name, given)
            self.assertIs(errors.Full(given).number, given)
            self.assertIs(errors.NoOffer(given, "row").place, given)

    def test_told(self):
        for name, fields in FIELDS.items():
            error = getattr(errors, name)(*fields)
            self.assertEqual(error.told(), "refused " + name.lower())
        self.assertEqual(errors.MethodError().told(), "refused methoderror")
        self.assertEqual(errors.NoRatio("top").told(), "refused noratio")

    def test_each_class_defines_told_itself(self):
        for name in [*FIELDS, "MethodError"]:
            self.assertIn("told", vars(getattr(errors, name)), name)

    def test_caught_by_name_and_by_base(self):
        for base in (errors.NoSuch, errors.MethodError, ValueError):
            with self.assertRaises(base):
                raise errors.NoSuch("a")


if __name__ == "__main__":
    unittest.main()
