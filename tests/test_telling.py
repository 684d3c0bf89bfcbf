"""Silence, telling all, rules side by side and words put together (point 9)."""

import unittest

from besttelling.errors import NoGroups, NoNumber, TooMany, Unlike
from besttelling.rules import Rule
from besttelling.ruletexts import read_rule
from besttelling.telling import all_told, beside, grouped, silence
from tests.things import Gruff, lists_in, no_lists, no_wholes, ratio, rule_rows, spoil, worth

NO_WORLDS = [0, -1, 6, 7, 30, 10 ** 29, -(10 ** 29)]


def a_rule(worlds, words, seed=0):
    return Rule(rule_rows(worlds, words, seed))


class OfWorlds(unittest.TestCase):
    def test_silence(self):
        for worlds in range(1, 6):
            self.assertEqual(silence(worlds), Rule([[(1, 1)]] * worlds))
            self.assertEqual((silence(worlds).worlds(), len(silence(worlds))), (worlds, 1))
        self.assertEqual(str(silence(worlds=3)), "1 | 1 | 1")

    def test_all_told(self):
        texts = ["1", "1 0 | 0 1", "1 0 0 | 0 1 0 | 0 0 1", "1 0 0 0 | 0 1 0 0 | 0 0 1 0 | 0 0 0 1"]
        for worlds, text in enumerate(texts, start=1):
            self.assertEqual(str(all_told(worlds)), text)
        self.assertEqual(str(all_told(worlds=5)), "1 0 0 0 0 | 0 1 0 0 0 | 0 0 1 0 0 | 0 0 0 1 0 | 0 0 0 0 1")

    def test_no_number_of_worlds(self):
        for thing in no_wholes() + NO_WORLDS:
            for make in (silence, all_told):
                with self.assertRaises(NoNumber) as caught:
                    make(thing)
                self.assertIs(caught.exception.number, thing)

    def test_told_apart(self):
        for make in (silence, all_told):
            rule = make(4)
            told = lists_in(rule.rows()) + lists_in(make(4).rows())
            self.assertEqual(len({id(one) for one in told}), len(told))
            before = str(rule)
            spoil(rule.rows())
            self.assertEqual(str(rule), before)
            self.assertEqual(str(make(4)), before)


class Beside(unittest.TestCase):
    def test_named_ones(self):
        one, other = read_rule("1/2 1/2 | 1 0"), read_rule("1/3 0 2/3 | 0 1 0")
        self.assertEqual(str(beside(one, other)), "1/6 0 1/3 1/6 0 1/3 | 0 1 0 0 0 0")
        self.assertEqual(str(beside(other, one)), "1/6 1/6 0 0 1/3 1/3 | 0 0 1 0 0 0")

    def test_by_name(self):
        one, other = read_rule("1 0"), read_rule("0 0 1")
        self.assertEqual(str(beside(other=other, one=one)), "0 0 1 0 0 0")

    def test_by_the_oracle(self):
        for worlds in range(1, 6):
            for first, second in ((1, 1), (1, 30), (30, 1), (2, 3), (3, 2), (5, 6), (6, 5), (2, 15), (4, 7)):
                one, other = a_rule(worlds, first, 1), a_rule(worlds, second, 2)
                told = beside(one, other)
                self.assertIsInstance(told, Rule)
                self.assertEqual((told.worlds(), len(told)), (worlds, first * second))
                for world, row in enumerate(told.rows()):
                    for i in range(first):
                        for j in range(second):
                            product = worth(one.rows()[world][i]) * worth(other.rows()[world][j])
                            self.assertEqual(row[i * second + j], ratio(product))

    def test_a_rule_beside_silence_or_itself(self):
        rule = a_rule(3, 4)
        self.assertEqual(beside(rule, silence(3)), rule)
        self.assertEqual(beside(silence(3), rule), rule)
        self.assertEqual(str(beside(all_told(2), all_told(2))), "1 0 0 0 | 0 0 0 1")

    def test_unlike(self):
        for one in range(1, 6):
            for other in range(1, 6):
                if one != other:
                    for words in (1, 2, 30):
                        with self.assertRaises(Unlike) as caught:
                            beside(a_rule(one, words), a_rule(other, words))
                        self.assertEqual((caught.exception.one, caught.exception.other), (one, other))

    def test_too_many(self):
        for first, second in ((1, 30), (5, 6), (3, 10)):
            self.assertEqual(len(beside(a_rule(2, first), a_rule(2, second))), 30)
        for first, second in ((2, 16), (16, 2), (4, 8), (30, 2), (30, 30), (3, 11)):
            with self.assertRaises(TooMany) as caught:
                beside(a_rule(2, first), a_rule(2, second))
            self.assertEqual(caught.exception.many, first * second)

    def test_rules_stay_as_they_were(self):
        one, other = a_rule(3, 2, 1), a_rule(3, 3, 2)
        spoil(beside(one, other).rows())
        self.assertEqual((one, other), (a_rule(3, 2, 1), a_rule(3, 3, 2)))
        self.assertEqual(beside(one, other), beside(one, other))
        with self.assertRaises(Unlike):
            beside(one, silence(2))
        self.assertEqual(one, a_rule(3, 2, 1))


class Grouped(unittest.TestCase):
    def refused(self, word, rule, groups, many):
        before = str(rule)
        with self.assertRaises(NoGroups) as caught:
            grouped(rule, groups, many)
        self.assertEqual(caught.exception.word, word)
        self.assertNotIsInstance(caught.exception.word, bool)
        self.assertEqual(str(rule), before)

    def test_named_ones(self):
        rule = read_rule("1/2 1/3 1/6 | 0 1/4 3/4")
        self.assertEqual(str(grouped(rule, [0, 1, 0], 2)), "2/3 1/3 | 3/4 1/4")
        self.assertEqual(str(grouped(rule, [2, 2, 0], 4)), "1/6 0 5/6 0 | 3/4 0 1/4 0")
        self.assertEqual(grouped(rule, [0, 1, 2], 3), rule)
        self.assertEqual(grouped(rule, [0, 0, 0], 1), silence(2))
        self.assertEqual(len(grouped(rule, [29, 0, 29], 30)), 30)

    def test_by_name(self):
        self.assertEqual(str(grouped(many=2, groups=[1, 0], rule=read_rule("1/3 2/3"))), "2/3 1/3")

    def test_by_the_oracle(self):
        for worlds in range(1, 6):
            for words, many in ((1, 1), (3, 2), (7, 3), (30, 4), (5, 30)):
                rule = a_rule(worlds, words)
                groups = [(word * word + worlds) % many for word in range(words)]
                told = grouped(rule, groups, many)
                self.assertEqual((told.worlds(), len(told)), (worlds, many))
                for row, was in zip(told.rows(), rule.rows()):
                    for k in range(many):
                        self.assertEqual(row[k], ratio(sum(worth(one) for one, to in zip(was, groups) if to == k)))

    def test_no_number_ahead_of_no_groups(self):
        rule = a_rule(2, 3)
        for thing in no_wholes() + [0, -1, 31, 32, 10 ** 29]:
            for groups in ([0, 0, 0], None, [], [None] * 3, [5, 5, 5], Gruff()):
                with self.assertRaises(NoNumber) as caught:
                    grouped(rule, groups, thing)
                self.assertIs(caught.exception.number, thing)

    def test_no_list_of_as_many(self):
        for thing in no_lists() + [[], [0], [0, 0], [0] * 4, [None] * 2, [None] * 4]:
            self.refused(None, a_rule(2, 3), thing, 2)
        self.refused(None, a_rule(2, 1), [], 1)

    def test_first_word_whose_number_is_none(self):
        for many in (1, 2, 30):
            for thing in no_wholes() + [-1, many, many + 1, 10 ** 29, Gruff()]:
                for word in range(4):
                    groups = [0] * word + [thing] * (4 - word)
                    self.refused(word, a_rule(3, 4), groups, many)

    def test_what_is_handed_in_stays_and_is_not_kept(self):
        rule, groups = a_rule(3, 4), [1, 0, 1, 2]
        told = grouped(rule, groups, 3)
        self.assertEqual((rule, groups), (a_rule(3, 4), [1, 0, 1, 2]))
        before = str(told)
        groups.clear()
        spoil(told.rows())
        self.assertEqual(str(told), before)
        self.assertEqual(str(grouped(rule, [1, 0, 1, 2], 3)), before)


if __name__ == "__main__":
    unittest.main()
