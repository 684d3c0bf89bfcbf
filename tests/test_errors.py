"""The refusals: what they stand under, and their fields."""

import unittest

from besttelling import errors
from tests.things import no_texts

FIELDS = {
    "NoNumber": (ValueError, ["number"]),
    "NoText": (ValueError, ["part"]),
    "NoCase": (ValueError, ["part", "number"]),
    "NoRule": (ValueError, ["world"]),
    "NoBeliefs": (ValueError, []),
    "NoShares": (ValueError, []),
    "NoAdvice": (ValueError, ["words"]),
    "NoGroups": (ValueError, ["word"]),
    "NoHearers": (ValueError, ["number"]),
    "NoCounts": (ValueError, []),
    "NoOrder": (ValueError, ["part"]),
    "NoRow": (ValueError, []),
    "Unlike": (ValueError, ["one", "other"]),
    "NotTwo": (ArithmeticError, ["many"]),
    "ByNought": (ZeroDivisionError, []),
    "TooMany": (OverflowError, ["many"]),
    "NoWord": (IndexError, ["word"]),
    "NoDeed": (IndexError, ["number"]),
    "NoName": (KeyError, ["name"]),
    "Unsaid": (LookupError, ["word"]),
    "NoPart": (LookupError, ["part"]),
    "Bare": (RuntimeError, ["many"]),
}
KINDS = [
    ValueError, ArithmeticError, ZeroDivisionError, OverflowError, FloatingPointError, LookupError, IndexError, KeyError,
    RuntimeError, NotImplementedError, RecursionError, TypeError, AttributeError, UnicodeError, OSError, StopIteration,
    AssertionError, NameError,
]


class Refusals(unittest.TestCase):
    def test_each_stands_under_its_kind_and_no_other(self):
        for name, (kind, _) in FIELDS.items():
            refusal = getattr(errors, name)
            self.assertTrue(issubclass(refusal, kind), name)
            for other in KINDS:
                self.assertEqual(issubclass(refusal, other), issubclass(kind, other), (name, other))

    def test_none_stands_under_another_one(self):
        refusals = [getattr(errors, name) for name in FIELDS]
        for one in refusals:
            for other in refusals:
                self.assertEqual(issubclass(one, other), one is other)

    def test_fields_are_the_very_things_by_place_and_by_name(self):
        for name, (_, fields) in FIELDS.items():
            refusal = getattr(errors, name)
            for thing in no_texts() + ["", "shares"]:
                things = [thing] + [object()] * (len(fields) - 1)
                by_place = refusal(*things[:len(fields)])
                by_name = refusal(**dict(zip(fields, things)))
                for field, held in zip(fields, things):
                    self.assertIs(getattr(by_place, field), held)
                    self.assertIs(getattr(by_name, field), held)

    def test_each_is_made_of_just_its_fields(self):
        for name, (_, fields) in FIELDS.items():
            refusal = getattr(errors, name)
            with self.assertRaises(TypeError):
                refusal(*range(len(fields) + 1))
            if fields:
                with self.assertRaises(TypeError):
                    refusal()

    def test_words_do_not_hang_on_the_fields(self):
        for name, (_, fields) in FIELDS.items():
            refusal = getattr(errors, name)
            for thing in no_texts():
                self.assertIsInstance(str(refusal(*[thing for _ in fields])), str)

    def test_each_can_be_raised_and_caught(self):
        for name, (kind, fields) in FIELDS.items():
            refusal = getattr(errors, name)
            with self.assertRaises(kind):
                raise refusal(*[None for _ in fields])


if __name__ == "__main__":
    unittest.main()
