"""A word's chance, and beliefs behind it (point 10)."""

from fractions import Fraction
import unittest

from besttelling.cases import Case
from besttelling.errors import NoWord, Unlike, Unsaid
from besttelling.hearing import beliefs, chance
from besttelling.ruletexts import read_rule
from tests.things import drawn_case, drawn_rule, no_words, ratio, reckoned_masses, row_worths, worth


def some_pairs():
    """Cases and rules of as many worlds, words that are never said among them."""
    return [(drawn_case(worlds, 2, seed=seed), drawn_rule(worlds, words, seed))
            for worlds in range(1, 6) for words in (1, 2, 3, 7, 30) for seed in range(4)]


class Hearing(unittest.TestCase):
    def setUp(self):
        gains = [[(1, 1), (0, 1)]] * 3
        self.case = Case([(1, 2), (1, 2), (0, 1)], gains, gains)
        self.rule = read_rule("1/3 2/3 0 0 | 1 0 0 0 | 0 0 1/2 1/2")

    def test_named_ones(self):
        self.assertEqual([chance(self.case, self.rule, word) for word in range(4)], [(2, 3), (1, 3), (0, 1), (0, 1)])
        self.assertEqual(beliefs(self.case, self.rule, 0), [(1, 4), (3, 4), (0, 1)])
        self.assertEqual(beliefs(self.case, self.rule, 1), [(1, 1), (0, 1), (0, 1)])

    def test_by_name(self):
        self.assertEqual(chance(word=1, rule=self.rule, case=self.case), (1, 3))
        self.assertEqual(beliefs(word=0, rule=self.rule, case=self.case), [(1, 4), (3, 4), (0, 1)])

    def test_by_the_oracle(self):
        unsaid = said = 0
        for case, rule in some_pairs():
            for word in range(len(rule)):
                masses = reckoned_masses(case, rule, word)
                whole = sum(masses)
                self.assertEqual(chance(case, rule, word), ratio(whole))
                if whole == 0:
                    unsaid += 1
                    with self.assertRaises(Unsaid) as caught:
                        beliefs(case, rule, word)
                    self.assertEqual(caught.exception.word, word)
                else:
                    said += 1
                    told = beliefs(case, rule, word)
                    self.assertIsInstance(told, list)
                    self.assertEqual(told, [ratio(mass / whole) for mass in masses])
                    self.assertEqual(sum(row_worths(told)), 1)
        self.assertGreater(min(unsaid, said), 50)

    def test_beliefs_times_chances_come_to_the_shares(self):
        for case, rule in some_pairs():
            shares = [Fraction(0)] * case.worlds()
            for word in range(len(rule)):
                often = worth(chance(case, rule, word))
                if often:
                    shares = [share + often * worth(one) for share, one in zip(shares, beliefs(case, rule, word))]
            self.assertEqual([ratio(share) for share in shares], case.shares())

    def test_unlike_ahead_of_all(self):
        for worlds in range(1, 6):
            for others in range(1, 6):
                if worlds != others:
                    case, rule = drawn_case(worlds, 2), drawn_rule(others, 3)
                    for word in no_words(rule) + [0, 1, 2]:
                        for ask in (chance, beliefs):
                            with self.assertRaises(Unlike) as caught:
                                ask(case, rule, word)
                            self.assertEqual((caught.exception.one, caught.exception.other), (worlds, others))
                            self.assertIsInstance(caught.exception, ValueError)
                            self.assertNotIsInstance(caught.exception, (LookupError, ArithmeticError, RuntimeError))

    def test_no_word_ahead_of_unsaid(self):
        for rule in (self.rule, read_rule("0 1 | 0 1 | 1 0"), read_rule("1 | 1 | 1")):
            for thing in no_words(rule):
                for ask in (chance, beliefs):
                    with self.assertRaises(NoWord) as caught:
                        ask(self.case, rule, thing)
                    self.assertIs(caught.exception.word, thing)
                    self.assertIsInstance(caught.exception, IndexError)
                    self.assertNotIsInstance(caught.exception, (ValueError, KeyError, ArithmeticError, RuntimeError))

    def test_unsaid(self):
        for word in (2, 3):
            with self.assertRaises(Unsaid) as caught:
                beliefs(self.case, self.rule, word)
            self.assertIs(caught.exception.word, word)
            self.assertIsInstance(caught.exception, LookupError)
            self.assertNotIsInstance(caught.exception, (IndexError, KeyError, ValueError, ArithmeticError))

    def test_told_lists_are_the_askers_own(self):
        for case, rule in some_pairs()[:40]:
            case_before, rule_before = repr(case), repr(rule)
            for word in range(len(rule)):
                if chance(case, rule, word) != (0, 1):
                    told = beliefs(case, rule, word)
                    kept = list(told)
                    told.append((1, 1))
                    told[0] = None
                    self.assertEqual(beliefs(case, rule, word), kept)
                    self.assertIsNot(beliefs(case, rule, word), beliefs(case, rule, word))
            self.assertEqual((repr(case), repr(rule)), (case_before, rule_before))

    def test_silent_world_is_believed_in_as_before(self):
        case = Case([(1, 3), (2, 3)], [[(0, 1)]] * 2, [[(0, 1)]] * 2)
        told = beliefs(case, read_rule("1 | 1"), 0)
        told.clear()
        self.assertEqual(case.shares(), [(1, 3), (2, 3)])
        self.assertEqual(beliefs(case, read_rule("1 | 1"), 0), [(1, 3), (2, 3)])


if __name__ == "__main__":
    unittest.main()
