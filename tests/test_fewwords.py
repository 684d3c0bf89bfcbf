"""Rules of few words that gain the most (point 17, and part b of point 3)."""

from fractions import Fraction
import unittest

from besttelling.cases import Case
from besttelling.doing import gains
from besttelling.fewwords import few
from besttelling.hearing import chance
from besttelling.mosts import most
from besttelling.rules import Rule
from tests.things import drawn_case, drawn_cases, ratio, reckoned_gains, spoil, worth


def many_words_case(worlds, deeds):
    """A case of one mind, whose deeds are each best near shares of its own: many might be advised."""
    peaks = [[Fraction((deed * (world + 2)) % 7 + 1) for world in range(worlds)] for deed in range(deeds)]
    peaks = [[one / sum(peak) for one in peak] for peak in peaks]
    hearer = [[ratio(2 * peak[world] - sum(one * one for one in peak)) for peak in peaks] for world in range(worlds)]
    shares = [ratio(sum(peak[world] for peak in peaks) / deeds) for world in range(worlds)]
    return Case(shares, hearer, hearer)


class Few(unittest.TestCase):
    def check(self, case):
        before = repr(case)
        rule = few(case)
        self.assertIsInstance(rule, Rule)
        self.assertEqual(rule.worlds(), case.worlds())
        self.assertLessEqual(len(rule), sum(1 for share in case.shares() if share != (0, 1)))
        self.assertLessEqual(len(rule), case.deeds())
        for word in range(len(rule)):
            self.assertGreater(worth(chance(case, rule, word)), 0)
        gain = most(case)[0]
        self.assertEqual(gains(case, rule)[0], gain)
        self.assertEqual(reckoned_gains(case, rule, False)[0], worth(gain))
        self.assertEqual(repr(case), before)
        return rule

    def test_cases_of_all_sizes_and_kinds(self):
        for case in drawn_cases(3):
            self.check(case)

    def test_many_deeds_that_tie(self):
        for worlds in range(1, 6):
            for deeds in range(1, 7):
                self.check(many_words_case(worlds, deeds))
                for seed in range(15):
                    self.check(drawn_case(worlds, deeds, "tied", f"few {seed}"))

    def test_known_by_hand(self):
        # The hearer gains by no deed more than by another, the teller in each world by its own deed alone.
        gains_alike = [[(0, 1)] * 3] * 3
        own = [[(1, 1) if world == deed else (0, 1) for deed in range(3)] for world in range(3)]
        rule = self.check(Case([(1, 3), (0, 1), (2, 3)], gains_alike, own))
        self.assertEqual(len(rule), 2)
        self.assertEqual(sorted([rule.rows()[0], rule.rows()[2]]), [[(0, 1), (1, 1)], [(1, 1), (0, 1)]])

    def test_all_in_one_world(self):
        for worlds in range(1, 6):
            for deeds in range(1, 7):
                case = drawn_case(worlds, deeds)
                for world in range(worlds):
                    shares = [(1, 1) if other == world else (0, 1) for other in range(worlds)]
                    self.assertEqual(len(self.check(case.with_shares(shares))), 1)

    def test_told_again_alike(self):
        for case in drawn_cases()[::7]:
            rule = few(case)
            before = str(rule)
            spoil(rule.rows())
            self.assertEqual(str(few(case)), before)
        self.assertEqual(few(case=case), few(case))


if __name__ == "__main__":
    unittest.main()
