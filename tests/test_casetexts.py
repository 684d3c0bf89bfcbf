"""Texts of cases (point 27, and part h of point 3)."""

from fractions import Fraction
import re
import unittest

from besttelling.cases import Case
from besttelling.casetexts import read, shown
from besttelling.errors import NoCase, NoText
from tests.things import drawn_cases, no_texts, ratio, row_worths, whole_case

HEADS = ("shares", "hearer", "teller")
NAMED = "shares 1/2 1/2; hearer 1 0 | 0 1; teller 0 1 | 0 1"
SIGNS = " |;/-0127sx\t\n.,+"
NUMBER = re.compile(r"(0|-?[1-9][0-9]*)(?:/([1-9][0-9]*))?")


def written_row(row):
    return " ".join(str(one) for one in row_worths(row))


def written(case):
    """The case's text, written here."""
    gains = [" | ".join(written_row(row) for row in rows) for rows in (case.hearer(), case.teller())]
    return f"shares {written_row(case.shares())}; hearer {gains[0]}; teller {gains[1]}"


def parsed_ratio(text):
    """The fraction, or None, read here."""
    found = NUMBER.fullmatch(text)
    if found is None or not text.isascii():
        return None
    one = Fraction(int(found[1]), int(found[2] or "1"))
    return ratio(one) if str(one) == text else None


def parsed_rows(text, head):
    """The rows of a part, or None, read here."""
    if not text.startswith(head + " "):
        return None
    rows = [[parsed_ratio(word) for word in row.split(" ")] for row in text[len(head) + 1:].split(" | ")]
    return None if any(None in row for row in rows) else rows


def expected(text):
    """What is told of a text: `text` and the part, `case` and its fields, or the case itself."""
    parts = text.split("; ")
    found = []
    for number, head in enumerate(HEADS):
        rows = parsed_rows(parts[number], head) if number < len(parts) else None
        if rows is None or (number == 0 and len(rows) > 1):
            return ("text", number)
        found.append(rows)
    if len(parts) > 3:
        return ("text", 3)
    try:
        return Case(found[0][0], found[1], found[2])
    except NoCase as refused:
        return ("case", refused.part, refused.number)


def outcome(text):
    """What the program tells of a text."""
    try:
        return read(text)
    except NoText as refused:
        return ("text", refused.part)
    except NoCase as refused:
        return ("case", refused.part, refused.number)


def spoilt(text):
    """All texts with one sign left out, put in or exchanged."""
    told = [text[:at] + text[at + 1:] for at in range(len(text))]
    told += [text[:at] + sign + text[at:] for at in range(len(text) + 1) for sign in SIGNS]
    return told + [text[:at] + sign + text[at + 1:] for at in range(len(text)) for sign in SIGNS]


class Shown(unittest.TestCase):
    def test_named_one(self):
        case = whole_case([(1, 2), (1, 2)], [[1, 0], [0, 1]], [[0, 1], [0, 1]])
        self.assertEqual(shown(case), NAMED)
        self.assertEqual(shown(case=case), NAMED)
        self.assertEqual(read(NAMED), case)
        self.assertEqual(read(text=NAMED), case)

    def test_by_hand(self):
        case = Case([(1, 1)], [[(-3, 4)]], [[(10 ** 29, 7)]])
        self.assertEqual(shown(case), f"shares 1; hearer -3/4; teller {10 ** 29}/7")
        case = whole_case([(0, 1), (1, 1)], [[-1, 0], [0, -12]], [[5, 6], [7, 8]])
        self.assertEqual(shown(case), "shares 0 1; hearer -1 0 | 0 -12; teller 5 6 | 7 8")

    def test_cases_of_all_sizes_and_kinds(self):
        for case in drawn_cases(2):
            before = repr(case)
            text = shown(case)
            self.assertIsInstance(text, str)
            self.assertEqual(text, written(case))
            told = read(text)
            self.assertIsInstance(told, Case)
            self.assertEqual(told, case)
            self.assertEqual(shown(told), text)
            self.assertEqual(repr(case), before)


class Refused(unittest.TestCase):
    def check(self, text, told=None):
        self.assertEqual(outcome(text), expected(text) if told is None else told, repr(text))

    def test_a_sign_left_out_put_in_or_exchanged(self):
        texts = [NAMED, "shares 1; hearer -3/4; teller 10", "shares 1/3 2/3; hearer 1/2 0 | 0 1; teller 0 -1/2 | 12 1"]
        kinds = {}
        for text in texts:
            for one in spoilt(text):
                self.check(one)
                told = outcome(one)
                kinds[told if isinstance(told, tuple) else "read"] = True
        for kind in (("text", 0), ("text", 1), ("text", 2), ("case", "shares", None), ("case", "hearer", 1), "read"):
            self.assertIn(kind, kinds)

    def test_parts_left_out_twice_or_exchanged(self):
        shares, hearer, teller = NAMED.split("; ")
        for text, part in [
                ("", 0), (hearer, 0), (teller, 0), (f"{hearer}; {teller}", 0), (f"{hearer}; {shares}; {teller}", 0),
                (shares, 1), (f"{shares}; {teller}", 1), (f"{shares}; {shares}; {teller}", 1),
                (f"{shares}; {teller}; {hearer}", 1), (f"{shares}; ", 1), (f"{shares}; ; {teller}", 1),
                (f"{shares}; {shares}; {hearer}; {teller}", 1), (f"{shares}; {hearer}", 2), (f"{shares}; {hearer}; ", 2),
                (f"{shares}; {hearer}; {hearer}", 2), (f"{shares}; {hearer}; {hearer}; {teller}", 2),
                (f"{shares}; {hearer}; ; {teller}", 2), (f"{NAMED};", 2), (f"{NAMED}; ", 3), (f"{NAMED}; {teller}", 3),
                (f"{NAMED}; ; ", 3), (f"{NAMED}; x", 3), (f"{NAMED}; {NAMED}", 3), (f"; {NAMED}", 0), (f" {NAMED}", 0),
                (f"{NAMED} ", 2), (f"{NAMED}\n", 2), (NAMED.upper(), 0), (f"{shares};{hearer};{teller}", 0),
                (f"{shares};  {hearer}; {teller}", 1), (f"{shares} ; {hearer}; {teller}", 0)]:
            self.check(text, ("text", part))
            self.assertEqual(expected(text), ("text", part))

    def test_rows_without_fractions(self):
        good = ["1/2 1/2", "1 0 | 0 1", "0 1 | 0 1"]
        for part in range(3):
            for wrong in ("", " ", "|", " | ", "1 |", "| 1", "1 | ", " | 1", "1 |  | 1", "1 | | 1", "1  0", " 1", "1 ", "1|0",
                          "1 | 0 | ", "x", "1,0", "01", "-0", "1/1", "2/4", "1/0", "+1", "1.0", "1/-2", "0/1", "1 x"):
                bodies = good[:part] + [wrong] + ["x"] * (2 - part)
                self.check("; ".join(f"{head} {body}" for head, body in zip(HEADS, bodies)), ("text", part))
            words = list(HEADS)
            for wrong in ("", "share", "sharess", "Shares", "hearers", "tell", HEADS[part - 1]):
                words[part] = wrong
                self.check("; ".join(f"{head} {body}" for head, body in zip(words, good)), ("text", part))
        self.check("shares; hearer 1; teller 1", ("text", 0))
        self.check("shares 1; hearer; teller 1", ("text", 1))
        self.check("shares 1; hearer 1; teller", ("text", 2))
        # Shares are no rows of worlds.
        self.check("shares 1/2 | 1/2; hearer 1 | 1; teller 1 | 1", ("text", 0))

    def test_first_part_ahead_of_no_case(self):
        self.check("shares 2; hearer 1; teller x", ("text", 2))
        self.check("shares 2; hearer x; teller 1", ("text", 1))
        self.check("shares 2; hearer 1; teller 1; ", ("text", 3))
        self.check("shares 2; hearer 1", ("text", 2))

    def test_no_case(self):
        for text, part, number in [
                ("shares 2; hearer 1; teller 1", "shares", None), ("shares -1 2; hearer 1; teller 1", "shares", 0),
                ("shares 1 -1/2 1/2; hearer 1; teller 1", "shares", 1), ("shares 1/2 1/3; hearer 1 | 1; teller 1 | 1", "shares", None),
                ("shares 1 0 0 0 0 0; hearer 1; teller 1", "shares", None), ("shares 1; hearer 1 | 1; teller 1", "hearer", None),
                ("shares 1/2 1/2; hearer 1; teller 1", "hearer", None), ("shares 1/2 1/2; hearer 1 | 1 2; teller 1 | 1", "hearer", 1),
                ("shares 1; hearer 1 2 3 4 5 6 7; teller 1", "hearer", 0), ("shares 1; hearer 1; teller 1 | 1", "teller", None),
                ("shares 1; hearer 1 2; teller 1", "teller", 0), ("shares 1/2 1/2; hearer 1 2 | 1 2; teller 1 2 | 1", "teller", 1)]:
            self.check(text, ("case", part, number))
            self.assertEqual(expected(text), ("case", part, number))

    def test_no_texts(self):
        for thing in no_texts() + [NAMED.encode(), [NAMED], (NAMED,), {NAMED: NAMED}]:
            with self.assertRaises(NoText) as caught:
                read(thing)
            self.assertEqual(caught.exception.part, 0)

    def test_long_figures(self):
        top, bottom = 7 ** 400, 10 ** 300
        case = Case([(1, 1)], [[(top, bottom)]], [[(-top, bottom)]])
        self.assertEqual(read(shown(case)), case)


if __name__ == "__main__":
    unittest.main()
