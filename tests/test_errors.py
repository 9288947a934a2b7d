import unittest

from quotehome import errors
from tests.helper import FIELDS, Case, any_values

BASES = {
    "QuoteError": ValueError,
    "InvalidWord": errors.QuoteError,
    "InvalidText": errors.QuoteError,
    "InvalidStep": errors.QuoteError,
    "InvalidChain": errors.QuoteError,
    "InvalidLine": errors.QuoteError,
    "UnknownCommand": errors.QuoteError,
    "Missed": errors.QuoteError,
    "NoText": KeyError,
    "NoBeginning": KeyError,
    "NoWord": IndexError,
    "NoBlock": IndexError,
    "TooMany": OverflowError,
    "NothingToUndo": LookupError,
}


class Inspected:
    """An object that does not bear to be looked at."""

    def refuse(self, *_):
        raise AssertionError("inspected")

    __eq__ = __len__ = __bool__ = __str__ = __repr__ = __iter__ = __hash__ = refuse


class ErrorsTest(Case):
    def test_bases(self):
        self.assertEqual(list(BASES), list(FIELDS))
        for name, base in BASES.items():
            self.assertEqual(getattr(errors, name).__bases__, (base,))
            self.assertEqual(getattr(errors, name).__module__, "quotehome.errors")

    def test_no_class_is_below_another_one(self):
        for name, base in BASES.items():
            for other in BASES:
                if other != name and getattr(errors, other) is not base:
                    self.assertFalse(issubclass(getattr(errors, name), getattr(errors, other)), (name, other))

    def test_nothing_to_undo_is_a_lookup_error_only(self):
        self.assertFalse(issubclass(errors.NothingToUndo, (KeyError, IndexError, ValueError)))

    def test_fields_by_place_and_by_name(self):
        for name, fields in FIELDS.items():
            made = getattr(errors, name)
            for value in any_values() + [Inspected()]:
                values = [value] + [object() for _ in fields[1:]]
                for error in [made(*values[:len(fields)]), made(**dict(zip(fields, values)))]:
                    for field, given in zip(fields, values):
                        self.assertIs(getattr(error, field), given)

    def test_fields_are_all_needed_and_no_others(self):
        for name, fields in FIELDS.items():
            if fields:
                for many in [0, len(fields) - 1, len(fields) + 1]:
                    with self.assertRaises(TypeError):
                        getattr(errors, name)(*["a"] * many)

    def test_raised_and_caught_by_the_base(self):
        for name, base in BASES.items():
            with self.assertRaises(base):
                raise getattr(errors, name)(*["a"] * len(FIELDS[name]))


if __name__ == "__main__":
    unittest.main()
