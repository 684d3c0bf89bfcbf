"""Texts of rules, read (point 8)."""

import unittest

from besttelling.errors import NoText
from besttelling.rules import Rule
from besttelling.ruletexts import read_rule
from tests.things import no_texts, rule_rows

NO_TEXTS = {
    0: [
        "", " ", "|", " | ", "  ", "\n", "\t", "0", "2", "-1", "1/2", "1 ", " 1", "1\n", "1\t0", "1  0", "1 0 ", " 1 0",
        "1 1", "1/2 1/3", "3/2 -1/2", "2/4 1/2", "1/2 2/4", "1/1", "01", "+1", "1 -0", "-0 1", "a", "1 a", "1|1", "1 |1",
        "1| 1", "1\n | 1", "1  | 1", " 1 | 1", " | 1", "| 1", "1 |", "1,0", "1 0|", "1; 0", "\uff11", "1 0 |",
        "Rule('1')", "1" + " 0" * 30, " ".join(["1/31"] * 31), "1" + " 0" * 30 + " | 1", "2 | 3 | 4 | 5 | 6 | 7 | 8",
        "1/2 | 1",
    ],
    1: [
        "1 | ", "1 | 0", "1 |  1", "1 | 1 ", "1 | 1 0", "1 0 | 1", "1 0 | 1 0 0", "1 | |", "1 | | 1", "1 |  | 1",
        "1 | 1\n", "1 |  ", "1 | 1 |", "1 | 2/2 | 1", "1 0 | 1/2 1/3", "1 0 | 3/2 -1/2", "1 0 | 1  0", "1 | x",
        "1 0 | 1 1 | 1 0", "1 | 2 | 1 | 1 | 1 | 1 | 1", "1 0 | 1 |", "1 | -1", "1 | 1" + " 0" * 30, "1 | 1|1",
    ],
    2: ["1 | 1 | ", "1 | 1 | 0", "1 0 | 0 1 | 1", "1 | 1 |  | 1", "1 0 | 0 1 | 1/2 -1/2", "1 | 1 | x | 1"],
    3: ["1 | 1 | 1 | ", "1 | 1 | 1 | 1/2", "1 0 | 1 0 | 1 0 | 1 0 0 | x"],
    4: ["1 | 1 | 1 | 1 | ", "1 | 1 | 1 | 1 | 0 | 1", "1 | 1 | 1 | 1 | 1 |"],
    5: ["1 | 1 | 1 | 1 | 1 | 1", "1 | 1 | 1 | 1 | 1 | ", "1 | 1 | 1 | 1 | 1 | x", "1 | 1 | 1 | 1 | 1 | 1 | x | 1",
        "1 0 | 1 0 | 1 0 | 1 0 | 1 0 | 1 0"],
}


class Read(unittest.TestCase):
    def test_named_ones(self):
        told = read_rule("1 0 | 1/3 2/3")
        self.assertIsInstance(told, Rule)
        self.assertEqual(told.rows(), [[(1, 1), (0, 1)], [(1, 3), (2, 3)]])
        self.assertEqual(read_rule("1").rows(), [[(1, 1)]])
        self.assertEqual(read_rule("1 | 1 | 1 | 1 | 1").worlds(), 5)
        self.assertEqual(len(read_rule(" ".join(["1/30"] * 30))), 30)

    def test_by_name(self):
        self.assertEqual(str(read_rule(text="0 1")), "0 1")

    def test_each_text_is_read_back(self):
        for worlds in range(1, 6):
            for words in (1, 2, 5, 30):
                rule = Rule(rule_rows(worlds, words, 0))
                self.assertEqual(read_rule(str(rule)), rule)
                self.assertEqual(str(read_rule(str(rule))), str(rule))

    def test_fractions_of_many_figures(self):
        for figures in (30, 60, 150):
            rule = Rule(rule_rows(3, 3, 0, 10 ** figures))
            self.assertEqual(read_rule(str(rule)), rule)
        most = 10 ** 900 + 7
        text = f"1/{most} {most - 1}/{most}"
        self.assertEqual(read_rule(text).rows(), [[(1, most), (most - 1, most)]])
        self.assertEqual(str(read_rule(text)), text)


class Refused(unittest.TestCase):
    def refused(self, part, text):
        with self.assertRaises(NoText, msg=repr(text)) as caught:
            read_rule(text)
        self.assertEqual(caught.exception.part, part, repr(text))
        self.assertIsInstance(caught.exception.part, int)

    def test_first_part_that_is_not_so(self):
        for part, texts in NO_TEXTS.items():
            for text in texts:
                self.refused(part, text)

    def test_each_part_in_its_place(self):
        for worlds in range(1, 9):
            for wrong in range(worlds):
                for row in ("", "1", "1 0 0", "1  0", "1/2 1/3", "2 -1", "1 0 ", " 1 0", "2/4 1/2", "1 0\n", "x 1"):
                    # A first part of one or three words tells how many there are: it is a row itself.
                    if wrong == 0 and row in ("1", "1 0 0"):
                        continue
                    parts = ["1/2 1/2"] * worlds
                    parts[wrong] = row
                    self.refused(min(wrong, 5), " | ".join(parts))

    def test_what_is_no_text(self):
        for thing in no_texts() + [["1"], [[(1, 1)]], Rule([[(1, 1)]]), b"1"]:
            with self.assertRaises(NoText) as caught:
                read_rule(thing)
            self.assertEqual(caught.exception.part, 0)


if __name__ == "__main__":
    unittest.main()
