"""The error classes: their bases, their attributes, their messages."""

import unittest

from cornerplans import errors
from tests.helper import Case, any_values

WITH = {
    "BadPlans": "at", "BadRules": "at", "BadBook": "part", "BadThing": "thing", "NoRule": "at", "BadBox": "part",
    "BadRow": "part", "BadRows": "at", "BadPrices": "part", "NoRow": "at", "BadFare": "part", "BadOffer": "part",
    "BadForecast": "part", "BadReceipts": "at", "TooMany": "most", "NotNow": "word", "BadJournal": "at",
    "BadText": "line", "BadMarks": "at", "BadTurns": "part",
}
WITHOUT = [
    "BadPlan", "BadNumber", "BadSide", "BadRule", "NoPlans", "BadLot", "BadLimit", "BadStretch", "BadWords", "BadCell",
    "BadStrategy", "OtherThings", "NothingDone", "BadHouse", "NotSo", "NoRounds", "NoTurns",
]


class Errors(Case):
    def test_there_are_just_these(self):
        told = [name for name, value in vars(errors).items() if isinstance(value, type)]
        self.assertEqual(sorted(told), sorted(["CornerError", *WITH, *WITHOUT]))
        self.assertEqual(len(told), 38)

    def test_bases(self):
        self.assertEqual(errors.CornerError.__bases__, (ValueError,))
        for name in [*WITH, *WITHOUT]:
            self.assertEqual(getattr(errors, name).__bases__, (errors.CornerError,))

    def test_attribute_by_position_and_by_name(self):
        for name, attribute in WITH.items():
            kind = getattr(errors, name)
            for value in any_values() + [1.5, {"a": [1]}]:
                by_position, by_name = kind(value), kind(**{attribute: value})
                for error in (by_position, by_name):
                    self.assertEqual(list(vars(error)), [attribute])
                    self.assertIs(getattr(error, attribute), value)

    def test_attribute_must_be_told(self):
        for name in WITH:
            with self.assertRaises(TypeError):
                getattr(errors, name)()

    def test_messages(self):
        for name in ["CornerError", *WITHOUT]:
            error = getattr(errors, name)("a message")
            self.assertEqual(str(error), "a message")
            self.assertEqual(vars(error), {})
        for name in WITH:
            self.assertNotEqual(str(getattr(errors, name)(10 ** 5000)), "")

    def test_caught_as_value_errors(self):
        for name in WITHOUT:
            with self.assertRaises(ValueError):
                raise getattr(errors, name)("a message")
        for name in WITH:
            with self.assertRaises(errors.CornerError):
                raise getattr(errors, name)(None)


if __name__ == "__main__":
    unittest.main()
