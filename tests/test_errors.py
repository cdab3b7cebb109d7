"""The error classes: their bases, and the fields that they keep."""

import unittest

from odd import odd_things
from roundcopies import errors

FIELDS = {
    "BadSheet": "part", "BadTable": "part", "BadLayout": "part", "TooMany": "most",
    "Hidden": "block", "Spent": "block", "BadText": "line",
}
PLAIN = (
    "NoPlace", "NoRests", "NoLot", "NotClosed", "NoLoss", "NoSharing", "NoFraction", "NoNumber", "NoOther",
    "NoBlock", "NoBox", "IsDown", "IsUp", "NoCopy", "NoLine", "NoLines", "NoMending",
)


def class_called(name):
    return getattr(errors, name)


class TestErrors(unittest.TestCase):
    def test_copy_error_derives_directly_from_value_error(self):
        self.assertEqual(errors.CopyError.__bases__, (ValueError,))

    def test_each_error_derives_directly_from_copy_error(self):
        for name in (*FIELDS, *PLAIN):
            with self.subTest(name=name):
                self.assertEqual(class_called(name).__bases__, (errors.CopyError,))

    def test_each_error_is_defined_in_this_module_by_its_name(self):
        for name in ("CopyError", *FIELDS, *PLAIN):
            with self.subTest(name=name):
                self.assertEqual(class_called(name).__module__, "roundcopies.errors")
                self.assertEqual(class_called(name).__name__, name)

    def test_no_two_names_are_one_class(self):
        classes = [class_called(name) for name in ("CopyError", *FIELDS, *PLAIN)]
        self.assertEqual(len(set(classes)), 25)

    def test_fields_keep_whatever_is_passed(self):
        for name, field in FIELDS.items():
            for thing in [*odd_things(), 0, 1.5, 2j, {1}, frozenset(), "places", float("nan"), Exception]:
                error = class_called(name)(thing)
                self.assertIs(getattr(error, field), thing, name)

    def test_an_error_has_just_its_fields(self):
        for name, field in FIELDS.items():
            self.assertEqual(vars(class_called(name)(7)), {field: 7})
        for name in PLAIN:
            self.assertEqual(vars(class_called(name)()), {})

    def test_fields_are_kept_when_the_error_is_raised(self):
        for name, field in FIELDS.items():
            thing = [name]
            with self.assertRaises(errors.CopyError) as caught:
                raise class_called(name)(thing)
            self.assertIs(type(caught.exception), class_called(name))
            self.assertIs(getattr(caught.exception, field), thing)

    def test_errors_without_fields_are_made_with_nothing(self):
        for name in PLAIN:
            with self.subTest(name=name):
                self.assertIs(type(class_called(name)()), class_called(name))
                with self.assertRaises(ValueError):
                    raise class_called(name)()

    def test_errors_are_made_with_just_their_fields(self):
        for name in PLAIN:
            with self.subTest(name=name), self.assertRaises(TypeError):
                class_called(name)(1)
        for name in FIELDS:
            with self.subTest(name=name), self.assertRaises(TypeError):
                class_called(name)()
            with self.subTest(name=name), self.assertRaises(TypeError):
                class_called(name)(1, 2)

    def test_two_errors_of_a_class_keep_their_own_fields(self):
        one, other = errors.BadTable("boxes"), errors.BadTable(3)
        self.assertEqual((one.part, other.part), ("boxes", 3))


if __name__ == "__main__":
    unittest.main()
