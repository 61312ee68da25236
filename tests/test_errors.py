"""[24] The errors, which derives from which, and their fields."""

from unittest import TestCase

from ordercodes import errors
from tests.helper import ODD

CODE_ERRORS = {
    "BadIndex": ("number", "word"),
    "BadRow": ("place",),
    "BadText": ("number",),
    "BadWeights": ("value",),
    "Crowded": ("gap",),
    "Full": (),
    "LastKey": (),
    "NoFit": ("key",),
    "NothingToUndo": (),
    "TooMany": (),
}
LOOKUP_ERRORS = {"NoCode": ("value",), "NoGap": ("gap",), "NoKey": ("key",)}
ALL = {**CODE_ERRORS, **LOOKUP_ERRORS}


class DerivingTest(TestCase):
    def test_code_error_is_a_value_error_and_no_lookup_error(self):
        self.assertEqual(errors.CodeError.__bases__, (ValueError,))
        self.assertFalse(issubclass(errors.CodeError, LookupError))

    def test_code_errors_are_directly_under_code_error(self):
        for name in CODE_ERRORS:
            self.assertEqual(getattr(errors, name).__bases__, (errors.CodeError,), name)

    def test_lookup_errors_are_directly_under_lookup_error(self):
        for name in LOOKUP_ERRORS:
            self.assertEqual(getattr(errors, name).__bases__, (LookupError,), name)
            self.assertFalse(issubclass(getattr(errors, name), (ValueError, errors.CodeError)), name)

    def test_there_are_no_others(self):
        told = {name for name, held in vars(errors).items() if isinstance(held, type)}
        self.assertEqual(told, {"CodeError", *ALL})

    def test_each_is_defined_in_its_file(self):
        for name in ["CodeError", *ALL]:
            self.assertEqual(getattr(errors, name).__module__, "ordercodes.errors")


class FieldsTest(TestCase):
    def test_fields_are_the_arguments_in_their_order(self):
        for name, fields in ALL.items():
            told = [object() for _ in fields]
            error = getattr(errors, name)(*told)
            for field, value in zip(fields, told):
                self.assertIs(getattr(error, field), value, name)

    def test_fields_are_as_they_are_for_any_values(self):
        for value in [*ODD, 1, 0, (), 10 ** 39]:
            for name, fields in ALL.items():
                error = getattr(errors, name)(*[value for _ in fields])
                self.assertEqual([getattr(error, field) is value for field in fields], [True] * len(fields))

    def test_there_are_no_other_fields(self):
        for name, fields in ALL.items():
            self.assertEqual(tuple(vars(getattr(errors, name)(*fields))), fields, name)

    def test_as_many_arguments_as_fields(self):
        for name, fields in ALL.items():
            if fields:
                with self.assertRaises(TypeError):
                    getattr(errors, name)(*fields[1:])

    def test_each_can_be_raised_and_caught_as_told(self):
        for name in CODE_ERRORS:
            with self.assertRaises(ValueError):
                raise getattr(errors, name)(*CODE_ERRORS[name])
        for name in LOOKUP_ERRORS:
            with self.assertRaises(LookupError):
                raise getattr(errors, name)(*LOOKUP_ERRORS[name])

    def test_a_number_of_many_digits_can_be_shown(self):
        error = errors.NoCode(10 ** 9999)
        self.assertTrue(str(error) and repr(error))
        self.assertEqual(error.value, 10 ** 9999)
