"""Texts of fractions (point 5)."""

from fractions import Fraction
import itertools
import unittest

from besttelling.errors import NoText
from besttelling.figures import read_ratio, shown_ratio
from tests.things import no_texts, ratio, some_ratios

TEXTS = {
    "0": (0, 1), "3": (3, 1), "-3": (-3, 1), "10": (10, 1), "-100": (-100, 1), "-3/4": (-3, 4), "1/2": (1, 2),
    "10/7": (10, 7), "1/10": (1, 10), "7" * 30: (int("7" * 30), 1), "-1/" + "9" * 30: (-1, 10 ** 30 - 1),
    "1/" + "1" + "0" * 1990: (1, 10 ** 1990),
}
NO_TEXTS = [
    "", " ", "-", "/", "+3", "+0", "-0", "00", "01", "-01", "007", "--3", "-+3", "3-", "- 3", "3/1", "-3/1", "0/1", "0/2",
    "-0/2", "2/4", "-2/4", "4/2", "6/3", "3/0", "0/0", "1/-2", "1/+2", "1/02", "01/2", "1/00", "/2", "1/", "-/2", "1//2",
    "1/2/3", "1/2/", "1 /2", "1/ 2", " 1", "1 ", " 1/2", "1/2 ", "1\n", "\n1", "1/2\n", "1/\n2", "\t1", "1\t", "1_0",
    "1/2_0", "1,0", "1.0", "1.5", "1e3", "0x1", "0b1", "1.", ".5", "a", "None", "(1, 2)", "1 2", "1 | 2", "1/2;",
    "\u0663", "\u0661/\u0662", "1/\u0662", "\u00b2", "1/\u00b3", "\uff11", "\u0967", "\u2460", "\u00bd", "\u22123",
    "nan", "inf", "1\x00", "1\r", "1\x0b", "1\u00a0", "1\u2028",
]


def written_by_the_oracle(text):
    """Whether the oracle writes just this text of what it reads from it."""
    try:
        return str(Fraction(text)) == text
    except (ValueError, ZeroDivisionError):
        return False


class Shown(unittest.TestCase):
    def test_named_ones(self):
        for text, one in TEXTS.items():
            self.assertEqual(shown_ratio(one), text)

    def test_by_name(self):
        self.assertEqual(shown_ratio(one=(-3, 4)), "-3/4")


class Read(unittest.TestCase):
    def test_named_ones(self):
        for text, one in TEXTS.items():
            self.assertEqual(read_ratio(text), one)

    def test_each_text_is_read_back(self):
        for one in some_ratios(60, "few") + some_ratios(40, "many", 30) + some_ratios(5, "lots", 1900):
            self.assertEqual(read_ratio(shown_ratio(one)), one)

    def test_by_name(self):
        self.assertEqual(read_ratio(text="-3/4"), (-3, 4))

    def test_every_other_text_is_refused(self):
        for text in NO_TEXTS:
            with self.assertRaises(NoText, msg=repr(text)) as caught:
                read_ratio(text)
            self.assertEqual(caught.exception.part, 0)
            self.assertIsInstance(caught.exception.part, int)

    def test_short_texts_by_going_through_all(self):
        for signs in itertools.product(["", *"0123-/+ "], repeat=5):
            text = "".join(signs)
            if written_by_the_oracle(text):
                self.assertEqual(read_ratio(text), ratio(Fraction(text)))
            else:
                with self.assertRaises(NoText, msg=repr(text)):
                    read_ratio(text)

    def test_what_is_no_text_is_refused(self):
        for thing in no_texts():
            with self.assertRaises(NoText) as caught:
                read_ratio(thing)
            self.assertEqual(caught.exception.part, 0)


if __name__ == "__main__":
    unittest.main()
