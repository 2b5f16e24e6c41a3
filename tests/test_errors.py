"""The error classes of the interface."""

import unittest

from oncepost import errors
from tests.samples import odd_values

LISTED = [
    ("InvalidHandler", ValueError, ("value",)),
    ("InvalidRows", ValueError, ("value",)),
    ("InvalidMessage", ValueError, ("value",)),
    ("InvalidWay", ValueError, ("value",)),
    ("InvalidService", ValueError, ("reason",)),
    ("InvalidSystem", ValueError, ("reason",)),
    ("NotPlayed", ValueError, ("index",)),
    ("InvalidState", ValueError, ("value",)),
    ("InvalidTest", ValueError, ("test",)),
    ("InvalidCut", ValueError, ("cut",)),
    ("OtherWorld", ValueError, ()),
    ("InvalidCount", ValueError, ("value",)),
    ("NoFact", LookupError, ("fact",)),
    ("NoThing", LookupError, ("thing",)),
    ("NoWord", LookupError, ("word",)),
    ("NoService", LookupError, ("value",)),
    ("OutOfRange", LookupError, ("count",)),
    ("TooMany", OverflowError, ("most",)),
]
BASES = (ValueError, LookupError, OverflowError)
PLAIN_VALUES = [None, 0, -7, "word", "reason", (), ("take", "add"), 2000]


def listed_classes():
    return [(getattr(errors, name), base, fields) for name, base, fields in LISTED]


class TestErrors(unittest.TestCase):
    def test_all_are_defined_in_this_file(self):
        for name, _, _ in LISTED:
            with self.subTest(name):
                error_class = getattr(errors, name)
                self.assertEqual((error_class.__name__, error_class.__module__), (name, "oncepost.errors"))

    def test_there_are_no_others(self):
        classes = [name for name, held in vars(errors).items() if isinstance(held, type)]
        self.assertEqual(sorted(classes), sorted(name for name, _, _ in LISTED))

    def test_each_is_below_the_error_told_alone(self):
        for error_class, base, _ in listed_classes():
            with self.subTest(error_class.__name__):
                self.assertEqual([one for one in BASES if issubclass(error_class, one)], [base])

    def test_none_is_below_another(self):
        for one, _, _ in listed_classes():
            for other, _, _ in listed_classes():
                with self.subTest(one=one.__name__, other=other.__name__):
                    self.assertEqual(issubclass(one, other), one is other)

    def test_fields_by_position_are_the_very_values(self):
        for error_class, _, fields in listed_classes():
            for value in PLAIN_VALUES + odd_values():
                with self.subTest(error_class.__name__, value=value):
                    error = error_class(*[value for _ in fields])
                    for field in fields:
                        self.assertIs(getattr(error, field), value)

    def test_fields_by_name_are_the_very_values(self):
        for error_class, _, fields in listed_classes():
            for value in PLAIN_VALUES + odd_values():
                with self.subTest(error_class.__name__, value=value):
                    error = error_class(**{field: value for field in fields})
                    self.assertEqual(list(vars(error)), list(fields))
                    for field in fields:
                        self.assertIs(getattr(error, field), value)

    def test_a_field_left_out_and_one_too_many(self):
        for error_class, _, fields in listed_classes():
            with self.subTest(error_class.__name__):
                self.assertRaises(TypeError, error_class, *[1 for _ in fields], 1)
                if fields:
                    self.assertRaises(TypeError, error_class)

    def test_each_can_be_raised_and_caught_by_its_base(self):
        for error_class, base, fields in listed_classes():
            with self.subTest(error_class.__name__):
                error = error_class(*["k" for _ in fields])
                with self.assertRaises(base) as caught:
                    raise error
                self.assertIs(caught.exception, error)

    def test_what_is_passed_stays(self):
        value = [1, {"a": [2]}]
        self.assertIs(errors.InvalidState(value).value, value)
        self.assertEqual(value, [1, {"a": [2]}])


if __name__ == "__main__":
    unittest.main()
