"""The errors: their fields and their base classes."""

import unittest

from standlots import errors
from standlots.errors import Quarrel, StandError, TooMany

FIELDS = {
    "BadThings": "value",
    "BadLot": "value",
    "BadCounts": "place",
    "BadMaker": "place",
    "BadNumber": "value",
    "BadClaim": "value",
    "BadFacts": "number",
    "BadPaper": "place",
    "BadText": "line",
    "Quarrel": "tree",
    "TooMany": "most",
}
VALUES = [None, True, 0, 7, -1, "", "form", "none", b"a", (), ("a",), ("step", (), "a"), [], ["a"], {}, {"a": 1},
          (("a",), 0, (), ()), 10 ** 999]


class ErrorsTest(unittest.TestCase):
    def test_direct_base_classes(self):
        self.assertEqual(StandError.__bases__, (ValueError,))
        for name in FIELDS:
            base = {"Quarrel": LookupError, "TooMany": OverflowError}.get(name, StandError)
            self.assertEqual(getattr(errors, name).__bases__, (base,), name)

    def test_each_is_defined_in_this_file(self):
        for name in list(FIELDS) + ["StandError"]:
            self.assertEqual(getattr(errors, name).__module__, "standlots.errors")

    def test_made_by_position(self):
        for name, field in FIELDS.items():
            for value in VALUES:
                error = getattr(errors, name)(value)
                self.assertEqual(getattr(error, field), value, name)
                self.assertIs(type(getattr(error, field)), type(value), name)

    def test_made_by_the_name_of_the_field(self):
        for name, field in FIELDS.items():
            for value in VALUES:
                error = getattr(errors, name)(**{field: value})
                self.assertEqual(getattr(error, field), value, name)

    def test_made_with_just_one_field(self):
        for name in FIELDS:
            for values in ((), (1, 2)):
                with self.assertRaises(TypeError):
                    getattr(errors, name)(*values)

    def test_raised_and_caught_as_its_bases(self):
        for name in FIELDS:
            base = {"Quarrel": LookupError, "TooMany": OverflowError}.get(name, StandError)
            with self.assertRaises(base):
                raise getattr(errors, name)(1)
        self.assertFalse(isinstance(Quarrel(()), StandError))
        self.assertFalse(isinstance(TooMany(16), StandError))

    def test_stand_error_is_any_refusal(self):
        with self.assertRaises(ValueError):
            raise StandError("refused")

    def test_a_field_stays_when_a_passed_list_or_dict_is_changed(self):
        for name, field in FIELDS.items():
            rows = ["a"]
            error = getattr(errors, name)(rows)
            rows.append("b")
            self.assertEqual(getattr(error, field), ["a"], name)
            table = {"a": 1}
            error = getattr(errors, name)(table)
            table["b"] = 2
            self.assertEqual(getattr(error, field), {"a": 1}, name)

    def test_each_has_a_message(self):
        for name in FIELDS:
            self.assertTrue(str(getattr(errors, name)(())), name)


if __name__ == "__main__":
    unittest.main()
