"""[23], and what [3] says of errors."""

import inspect
import unittest

from beadshares import errors
from tests.samples import NOTHING_RIGHT

SHARE_ERRORS = {
    "BadDealing": ("word",),
    "BadRing": (),
    "BadString": ("number", "word"),
    "BadTakers": ("many",),
    "BadText": ("number",),
    "BadWeights": ("weights",),
    "Full": (),
    "NoBack": ("many",),
    "NoChoice": ("choice",),
    "NoDealing": ("cuts",),
    "NothingToUndo": (),
    "Odd": ("kind",),
}
LOOKUP_ERRORS = {"NoPlace": ("value",), "NoRun": ("number",)}
ALL_ERRORS = {**SHARE_ERRORS, **LOOKUP_ERRORS}


class FamilyTest(unittest.TestCase):
    def test_share_error_is_a_value_error_and_no_lookup_error(self):
        self.assertEqual(errors.ShareError.__bases__, (ValueError,))
        self.assertFalse(issubclass(errors.ShareError, LookupError))

    def test_share_errors_stand_directly_under_share_error(self):
        for name in SHARE_ERRORS:
            with self.subTest(name=name):
                self.assertEqual(getattr(errors, name).__bases__, (errors.ShareError,))

    def test_lookup_errors_stand_directly_under_lookup_error(self):
        for name in LOOKUP_ERRORS:
            with self.subTest(name=name):
                made = getattr(errors, name)
                self.assertEqual(made.__bases__, (LookupError,))
                self.assertFalse(issubclass(made, errors.ShareError))
                self.assertFalse(issubclass(made, ValueError))

    def test_there_are_no_other_errors(self):
        names = [name for name, found in vars(errors).items() if inspect.isclass(found)]
        self.assertEqual(sorted(names), sorted([*ALL_ERRORS, "ShareError"]))

    def test_each_is_defined_in_its_module(self):
        for name in [*ALL_ERRORS, "ShareError"]:
            self.assertEqual(getattr(errors, name).__module__, "beadshares.errors")


class FieldsTest(unittest.TestCase):
    def test_fields_are_the_arguments_as_they_are(self):
        for name, fields in ALL_ERRORS.items():
            for value in NOTHING_RIGHT:
                given = [(value, place) for place in fields]
                if len(fields) == 1:
                    given = [value]
                with self.subTest(name=name, value=value):
                    error = getattr(errors, name)(*given)
                    for field, sent in zip(fields, given):
                        self.assertIs(getattr(error, field), sent)

    def test_a_list_is_kept_and_not_copied(self):
        held = [1]
        error = errors.NoRun(held)
        held.append(2)
        self.assertIs(error.number, held)

    def test_fields_keep_the_order_of_the_arguments(self):
        error = errors.BadString(3, "kind")
        self.assertEqual((error.number, error.word), (3, "kind"))

    def test_errors_without_fields_are_made_without_arguments(self):
        for name in ("BadRing", "Full", "NothingToUndo"):
            self.assertEqual(vars(getattr(errors, name)()), {})

    def test_errors_can_be_raised_and_shown(self):
        for name, fields in ALL_ERRORS.items():
            made = getattr(errors, name)
            with self.subTest(name=name), self.assertRaises(made) as caught:
                raise made(*fields)
            self.assertIsInstance(str(caught.exception), str)


if __name__ == "__main__":
    unittest.main()
