import unittest

from alldiffs import errors
from tests.search import Grudge, Liar

FAMILIES = {
    "InputError": (ValueError, {
        "InvalidText": ("value",), "InvalidCosts": ("problem", "value"), "InvalidDiff": ("value",),
        "InvalidLine": ("number",), "InvalidScript": ("index",), "InvalidPlace": ("value",),
        "InvalidStep": ("value",), "InvalidFace": ("value",), "InvalidChoice": ("value",),
        "InvalidReading": ("value",), "InvalidCount": ("value",), "InvalidAnswer": ("value",),
        "InvalidRow": ("value",), "InvalidResolution": ("index",), "InvalidVersion": ("value",),
        "InvalidPick": ("value",), "InvalidState": ("value",), "InvalidName": ("value",),
        "InvalidForm": ("number",), "InvalidClaim": ("value",),
    }),
    "MissingError": (LookupError, {"UnknownName": ("name",)}),
    "StateError": (RuntimeError, {
        "NotLeast": ("cost",), "Settled": ("choice",), "NotSure": ("matters",), "Clashes": ("positions",),
        "NothingToUndo": (), "NoQuestion": (),
    }),
    "LimitError": (ArithmeticError, {"TooLarge": ("kind", "limit")}),
}


class ErrorsTest(unittest.TestCase):
    def members(self):
        for family, (_, members) in FAMILIES.items():
            for name, fields in members.items():
                yield getattr(errors, family), getattr(errors, name), fields

    def test_the_families_have_one_base_of_pythons_own(self):
        for family, (base, _) in FAMILIES.items():
            self.assertEqual((base,), getattr(errors, family).__bases__)

    def test_each_error_has_its_family_as_its_only_base(self):
        for family, error, _ in self.members():
            self.assertEqual((family,), error.__bases__, error)

    def test_there_are_no_other_errors(self):
        named = {name for name, thing in vars(errors).items() if isinstance(thing, type)}
        told = set(FAMILIES) | {error.__name__ for _, error, _ in self.members()}
        self.assertEqual(told, named)
        self.assertEqual(4 + 20 + 1 + 6 + 1, len(told))

    def test_each_error_is_defined_in_this_file(self):
        for family, error, _ in self.members():
            self.assertEqual(("alldiffs.errors", "alldiffs.errors"), (family.__module__, error.__module__))

    def test_fields_by_position(self):
        for _, error, fields in self.members():
            values = [[name] for name in fields]
            made = error(*values)
            for name, value in zip(fields, values):
                self.assertIs(value, getattr(made, name), error)

    def test_fields_by_name(self):
        for _, error, fields in self.members():
            values = {name: [name] for name in reversed(fields)}
            made = error(**values)
            self.assertEqual(values, vars(made), error)
            for name, value in values.items():
                self.assertIs(value, getattr(made, name), error)

    def test_too_few_and_too_many_fields(self):
        for _, error, fields in self.members():
            with self.assertRaises(TypeError):
                error(*fields, "more")
            if fields:
                with self.assertRaises(TypeError):
                    error(*fields[1:])

    def test_an_error_of_any_value_can_be_shown(self):
        for _, error, fields in self.members():
            for value in (Liar(), Grudge(), None):
                self.assertIsInstance(str(error(*[value for _ in fields])), str)

    def test_each_is_raised_and_caught_as_its_family(self):
        for family, error, fields in self.members():
            with self.assertRaises(family) as caught:
                raise error(*fields)
            self.assertIs(error, type(caught.exception))


if __name__ == "__main__":
    unittest.main()
