"""What makes a rule, what is told of it (point 8), and what holds of all (point 2)."""

import unittest

from besttelling.cases import Case
from besttelling.errors import NoRule
from besttelling.rules import Rule
from tests.things import Gruff, Sly, lists_in, no_lists, no_ratios, rule_rows, spoil

HALF = (1, 2)
SIZES = [(worlds, words) for worlds in range(1, 6) for words in (1, 2, 3, 7, 29, 30)]


class Good(unittest.TestCase):
    def test_what_is_told(self):
        for worlds, words in SIZES:
            rule = Rule(rule_rows(worlds, words, 0))
            self.assertEqual(rule.rows(), rule_rows(worlds, words, 0))
            self.assertEqual((rule.worlds(), len(rule)), (worlds, words))

    def test_by_name(self):
        self.assertEqual(Rule(rows=[[HALF, HALF]]).rows(), [[HALF, HALF]])

    def test_written_out(self):
        rule = Rule([[(1, 1), (0, 1)], [(1, 3), (2, 3)]])
        self.assertEqual(str(rule), "1 0 | 1/3 2/3")
        self.assertEqual(repr(rule), "Rule('1 0 | 1/3 2/3')")
        self.assertEqual(str(Rule([[(1, 1)]])), "1")
        self.assertEqual(repr(Rule([[(1, 1)]])), "Rule('1')")
        self.assertEqual(str(Rule([[(1, 1)]] * 5)), "1 | 1 | 1 | 1 | 1")
        most = 10 ** 30 - 1
        self.assertEqual(str(Rule([[(1, most), (most - 1, most)]])), f"1/{most} {most - 1}/{most}")

    def test_methods_stand_in_the_class_itself(self):
        for name in ("rows", "worlds", "__len__", "__eq__", "__str__", "__repr__"):
            self.assertIn(name, vars(Rule))


class Refused(unittest.TestCase):
    def refused(self, world, rows):
        with self.assertRaises(NoRule) as caught:
            Rule(rows)
        self.assertEqual(caught.exception.world, world)
        self.assertNotIsInstance(caught.exception.world, bool)

    def test_no_list(self):
        for thing in no_lists():
            self.refused(None, thing)

    def test_too_few_or_too_many_worlds(self):
        self.refused(None, [])
        for many in (6, 7, 20):
            self.refused(None, [[(1, 1)]] * many)
            self.refused(None, [None] * many)

    def test_first_row_that_is_none(self):
        for worlds in range(1, 6):
            for number in range(worlds):
                for thing in no_lists():
                    rows = rule_rows(worlds, 2, 0)
                    rows[number:] = [thing] * (worlds - number)
                    self.refused(number, rows)

    def test_first_row_with_a_thing_that_is_no_share(self):
        for worlds in range(1, 6):
            for number in range(worlds):
                for thing in no_ratios() + [(-1, 2), (-1, 1)]:
                    for word in range(2):
                        rows = rule_rows(worlds, 2, 0)
                        rows[number][word] = thing
                        self.refused(number, rows)

    def test_row_not_together_one(self):
        for row in ([(0, 1)], [HALF], [(2, 1)]):
            self.refused(0, [row])
            self.refused(1, [[(1, 1)], row])
        for row in ([HALF, (1, 3)], [(1, 1), (1, 1)], [(0, 1), (0, 1)]):
            self.refused(0, [row, [HALF, HALF]])
            self.refused(2, [[HALF, HALF], [HALF, HALF], row, row])

    def test_below_nought_though_together_one(self):
        self.refused(1, [[HALF, HALF], [(3, 2), (-1, 2)]])

    def test_another_number_of_words_than_row_0(self):
        for words in (1, 2, 3, 30):
            for many in (0, 1, 2, 3, 29, 30, 31):
                for number in range(1, 5):
                    if many != words:
                        rows = [[(1, words)] * words for _ in range(5)]
                        rows[number] = [(1, max(many, 1))] * many
                        self.refused(number, rows)

    def test_row_0_with_none_or_too_many_words(self):
        for many in (0, 31, 32, 60):
            row = [(1, max(many, 1))] * many
            self.refused(0, [row])
            self.refused(0, [row] * 5)
            self.refused(0, [row, [(1, 1)]])

    def test_several_faults(self):
        self.refused(0, [Sly(), None])
        self.refused(1, [[(1, 1)], [Gruff()], None])
        self.refused(1, [[(1, 1)], [HALF, HALF], [HALF]])
        self.refused(0, [[HALF], [HALF, HALF]])


class Apart(unittest.TestCase):
    def test_new_lists_every_time(self):
        rule = Rule([[HALF, HALF]] * 3)
        told = lists_in(rule.rows()) + lists_in(rule.rows())
        self.assertEqual(len({id(one) for one in told}), len(told))

    def test_what_is_told_and_changed_changes_nothing(self):
        rule = Rule(rule_rows(3, 4, 0))
        spoil(rule.rows())
        self.assertEqual(rule.rows(), rule_rows(3, 4, 0))
        self.assertEqual((rule.worlds(), len(rule)), (3, 4))

    def test_what_is_handed_in_stays_and_is_not_kept(self):
        rows = rule_rows(3, 4, 0)
        rule = Rule(rows)
        self.assertEqual(rows, rule_rows(3, 4, 0))
        before = str(rule)
        spoil(rows)
        self.assertEqual(rule.rows(), rule_rows(3, 4, 0))
        self.assertEqual(str(rule), before)

    def test_what_is_refused_stays_as_it_was(self):
        rows = rule_rows(2, 2, 0) + [[HALF, None]]
        with self.assertRaises(NoRule):
            Rule(rows)
        self.assertEqual(rows, rule_rows(2, 2, 0) + [[HALF, None]])


class Alike(unittest.TestCase):
    def test_alike_rules(self):
        for worlds, words in SIZES:
            one, other = Rule(rule_rows(worlds, words, 0)), Rule(rule_rows(worlds, words, 0))
            self.assertIs(one == other, True)
            self.assertIs(other == one, True)
            self.assertIs(one != other, False)

    def test_other_rows(self):
        one = Rule([[HALF, HALF], [HALF, HALF]])
        for other in (Rule([[HALF, HALF], [(1, 3), (2, 3)]]), Rule([[HALF, HALF]]), Rule([[HALF, HALF]] * 3),
                      Rule([[HALF, HALF, (0, 1)]] * 2), Rule([[(1, 1)]] * 2)):
            self.assertIs(one == other, False)
            self.assertIs(other == one, False)
            self.assertIs(one != other, True)

    def test_like_nothing_else(self):
        rule = Rule([[(1, 1)]])
        for thing in no_lists() + [rule.rows(), str(rule), repr(rule), Case([(1, 1)], [[(1, 1)]], [[(1, 1)]])]:
            self.assertIs(rule == thing, False)
            self.assertIs(rule != thing, True)
            if not isinstance(thing, (Sly, Gruff)):
                self.assertIs(thing == rule, False)


if __name__ == "__main__":
    unittest.main()
