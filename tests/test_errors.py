"""Point [1]: the error classes."""
import unittest

from ranksweeps import errors
from ranksweeps.errors import SweepError
from values import KINDS

FIELDS = {
    "NoRow": ("index",),
    "NoSweep": ("part",),
    "NoChain": ("name",),
    "NoNumber": ("name",),
    "TooMany": ("most",),
    "TooLarge": ("part",),
    "NoRows": ("part", "index"),
    "NoForm": (),
    "NoRing": (),
    "NoText": ("index",),
    "NoAnswer": ("part", "index"),
    "NoName": ("name",),
}
CLASSES = {name: getattr(errors, name) for name in FIELDS}


class Bases(unittest.TestCase):
    def test_sweep_error_derives_from_value_error(self):
        self.assertEqual(SweepError.__bases__, (ValueError,))

    def test_each_class_derives_directly_from_sweep_error(self):
        for name, error in CLASSES.items():
            with self.subTest(name):
                self.assertEqual(error.__bases__, (SweepError,))
                self.assertEqual(error.__name__, name)

    def test_there_are_these_twelve_and_no_others(self):
        found = {name for name, value in vars(errors).items() if isinstance(value, type)}
        self.assertEqual(found, {"SweepError", *FIELDS})

    def test_an_error_is_a_value_error_and_of_no_other_class(self):
        for name, error in CLASSES.items():
            made = error(*[0 for _ in FIELDS[name]])
            self.assertIsInstance(made, ValueError)
            self.assertIsInstance(made, SweepError)
            for other in CLASSES:
                with self.subTest(name, other=other):
                    self.assertEqual(isinstance(made, CLASSES[other]), name == other)


class Fields(unittest.TestCase):
    def test_by_position_with_values_of_any_kind(self):
        for name, fields in FIELDS.items():
            for value in KINDS:
                passed = [[value, k] if k else value for k in range(len(fields))]
                self.check(name, passed, CLASSES[name](*passed))

    def test_by_name_with_values_of_any_kind(self):
        for name, fields in FIELDS.items():
            for value in KINDS:
                passed = [[value, k] if k else value for k in range(len(fields))]
                self.check(name, passed, CLASSES[name](**dict(zip(fields, passed))))

    def test_by_name_in_another_order(self):
        for name in ("NoRows", "NoAnswer"):
            self.check(name, ["steps", 3], CLASSES[name](index=3, part="steps"))

    def test_no_field_may_be_missing_or_be_one_too_many(self):
        for name, fields in FIELDS.items():
            if fields:
                with self.subTest(name):
                    self.assertRaises(TypeError, CLASSES[name], *fields[1:])
                    self.assertRaises(TypeError, CLASSES[name], *fields, 1)

    def test_they_can_be_raised_and_caught(self):
        for name, fields in FIELDS.items():
            with self.subTest(name):
                with self.assertRaises(CLASSES[name]) as caught:
                    raise CLASSES[name](*fields)
                self.check(name, fields, caught.exception)

    def check(self, name, passed, error):
        with self.subTest(name, passed=len(passed)):
            self.assertEqual(sorted(vars(error)), sorted(FIELDS[name]))
            for field, value in zip(FIELDS[name], passed):
                self.assertIs(getattr(error, field), value)


if __name__ == "__main__":
    unittest.main()
