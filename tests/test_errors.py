"""Points 7 and 14: the refusals, where they stand, and their fields."""

import unittest

from grantweave import errors
from grantweave.errors import GrantError

FIELDS = {
    "NoWord": "found", "NoKey": "found", "NoJoin": "found", "NoPart": "found", "NoDay": "found",
    "NoPrice": "found", "NoSteps": "found", "NoChoice": "found", "NoLine": "found",
    "BadTerms": "found", "BadAsks": "found", "BadOffers": "found", "BadBeneath": "found",
    "Doubled": "name", "Stopped": "name", "TooMany": "many", "TooDeep": "many", "BadText": "line",
}

THINGS = [None, True, False, 0, -1, 10 ** 30 - 1, "", "abc", ("share", 2), [1, [2]], {"a": (1,)}, (), 3]


class Refusals(unittest.TestCase):
    def test_there_are_just_these_eighteen(self):
        found = [name for name, value in vars(errors).items()
                 if isinstance(value, type) and value is not GrantError]
        self.assertEqual(sorted(found), sorted(FIELDS))
        self.assertEqual(len(FIELDS), 18)

    def test_each_stands_straight_under_grant_error(self):
        for name in FIELDS:
            self.assertEqual(getattr(errors, name).__bases__, (GrantError,), name)

    def test_none_stands_under_another_one(self):
        for name in FIELDS:
            for other in FIELDS:
                under = issubclass(getattr(errors, name), getattr(errors, other))
                self.assertEqual(under, name == other, (name, other))

    def test_grant_error_stands_under_value_error(self):
        self.assertEqual(GrantError.__bases__, (ValueError,))

    def test_each_holds_what_it_was_made_of(self):
        for name, field in FIELDS.items():
            for thing in THINGS:
                held = getattr(getattr(errors, name)(thing), field)
                self.assertEqual(held, thing, name)
                self.assertIs(type(held), type(thing), name)

    def test_each_is_made_by_its_fields_name(self):
        for name, field in FIELDS.items():
            self.assertEqual(getattr(getattr(errors, name)(**{field: "x"}), field), "x", name)

    def test_each_has_just_its_own_field(self):
        for name, field in FIELDS.items():
            self.assertEqual(list(vars(getattr(errors, name)(7))), [field], name)

    def test_each_is_made_of_one_thing(self):
        for name in FIELDS:
            with self.assertRaises(TypeError):
                getattr(errors, name)()
            with self.assertRaises(TypeError):
                getattr(errors, name)(1, 2)

    def test_each_is_taken_as_any_refusal(self):
        for name, field in FIELDS.items():
            with self.assertRaises(GrantError) as caught:
                raise getattr(errors, name)("x")
            self.assertEqual(getattr(caught.exception, field), "x")


if __name__ == "__main__":
    unittest.main()
