"""The most: gain, advice, prices (point 15, and of point 3 the parts a, d and g)."""

from fractions import Fraction
import random
import time
import unittest

from besttelling.advice import faults
from besttelling.cases import Case
from besttelling.doing import gains
from besttelling.mosts import most
from besttelling.prices import bound, lets_prices
from besttelling.ratios import is_ratio
from besttelling.rules import Rule
from besttelling.telling import all_told, silence
from tests.things import (
    drawn_case, drawn_cases, drawn_rule, lists_in, ratio, reckoned_deed, reckoned_gains, reckoned_masses,
    reckoned_worths, row_worths, share_row, spoil, whole_case, worth,
)


def as_advised(case, rule):
    """What the teller gains where it is done as advised."""
    return sum(reckoned_worths(case.teller(), reckoned_masses(case, rule, deed))[deed] for deed in range(case.deeds()))


def is_let_by(case, prices):
    """Whether prices are let by, reckoned here."""
    worlds, instead = prices
    hearer, teller = [[row_worths(row) for row in rows] for rows in (case.hearer(), case.teller())]
    deeds = range(case.deeds())
    return all(
        worth(worlds[world]) >= teller[world][d] + sum(
            worth(instead[d][e]) * (hearer[world][d] - hearer[world][e]) for e in deeds if e != d)
        for world in range(case.worlds()) for d in deeds)


def tried_rules(case, seed):
    """Rules that might gain more than the most, if they could."""
    rules = [silence(case.worlds()), all_told(case.worlds())]
    return rules + [drawn_rule(case.worlds(), words, f"{seed} {words}") for words in (2, 3, 6)]


def changed(case, hearer=None, teller=None):
    """The case with each gain changed."""
    parts = [(case.hearer(), hearer), (case.teller(), teller)]
    return Case(case.shares(), *[
        [[ratio(change(worth(one)) if change else worth(one)) for one in row] for row in rows] for rows, change in parts])


def roof_of_two(case):
    """The most of a case of two worlds, by the straight lines over what silence is worth at all shares that matter."""
    share = worth(case.shares()[1])
    parts = {Fraction(0), Fraction(1), share}
    first, second = [row_worths(row) for row in case.hearer()]
    for d in range(case.deeds()):
        for e in range(d):
            here, there = first[d] - first[e], second[d] - second[e]
            if here != there and 0 <= here / (here - there) <= 1:
                parts.add(here / (here - there))
    worths = {}
    for part in parts:
        weights = [1 - part, part]
        worths[part] = reckoned_worths(case.teller(), weights)[reckoned_deed(case, weights, False)]
    lines = [worths[share]]
    for low in parts:
        for high in parts:
            if low < share < high:
                lines.append((worths[low] * (high - share) + worths[high] * (share - low)) / (high - low))
    return max(lines)


class Most(unittest.TestCase):
    def check(self, case):
        before = repr(case)
        told = most(case)
        self.assertIsInstance(told, tuple)
        gain, advice, prices = told
        self.assertTrue(is_ratio(gain))
        self.assertIsInstance(advice, Rule)
        self.assertEqual((len(advice), advice.worlds()), (case.deeds(), case.worlds()))
        self.assertEqual(faults(case, advice), [])
        self.assertEqual(ratio(as_advised(case, advice)), gain)
        self.assertEqual(gains(case, advice)[0], gain)
        self.assertIs(lets_prices(case, prices), True)
        self.assertTrue(is_let_by(case, prices))
        self.assertEqual(bound(case, prices), gain)
        self.assertEqual(bound(case, prices, case.shares()), gain)
        self.assertEqual(repr(case), before)
        return gain

    def test_cases_of_all_sizes_and_kinds(self):
        for case in drawn_cases(3):
            self.check(case)

    def test_gains_of_many_figures(self):
        dice = random.Random(12)
        for worlds, deeds in ((2, 3), (3, 6), (5, 2), (5, 6)):
            rows = [[[ratio(Fraction(dice.randint(-10 ** 29, 10 ** 29), dice.randint(1, 10 ** 29))) for _ in range(deeds)]
                     for _ in range(worlds)] for _ in range(2)]
            self.check(Case(share_row(worlds, dice, 10 ** 12), *rows))

    def test_named_by_hand(self):
        # A judge must believe in guilt at least by half: of the innocent as many are accused as are guilty.
        judge = whole_case([(7, 10), (3, 10)], [[1, 0], [0, 1]], [[0, 1], [0, 1]])
        self.assertEqual(self.check(judge), (3, 5))
        self.assertEqual(most(judge)[1].rows(), [[(4, 7), (3, 7)], [(0, 1), (1, 1)]])
        self.assertEqual(self.check(judge.with_shares([(1, 3), (2, 3)])), (1, 1))
        self.assertEqual(self.check(judge.with_shares([(1, 1), (0, 1)])), (0, 1))
        self.assertEqual(self.check(judge.with_shares([(0, 1), (1, 1)])), (1, 1))
        # Deed 1 is worth 1 where world 1 is there by two thirds, deed 2 is worth 3 where world 2 is there for sure.
        three = whole_case([(1, 2), (1, 4), (1, 4)], [[0, -2, -9], [0, 1, -9], [0, -9, 0]], [[0, 1, 3]] * 3)
        self.assertEqual(self.check(three), (9, 8))
        # One world: of the hearer's best deeds the teller's best one.
        self.assertEqual(self.check(whole_case([(1, 1)], [[4, 5, 5, 5, 1]], [[9, 1, 3, 2, 9]])), (3, 1))
        self.assertEqual(self.check(whole_case([(1, 1)], [[-4]], [[-9]])), (-9, 1))

    def test_who_gains_alike_tells_all_and_who_gains_the_opposite_is_silent(self):
        for worlds in range(1, 6):
            for deeds in range(1, 7):
                case = drawn_case(worlds, deeds)
                friend = Case(case.shares(), case.hearer(), case.hearer())
                self.assertEqual(self.check(friend), gains(friend, all_told(worlds))[0])
                foe = changed(friend, teller=lambda one: -one)
                self.assertEqual(self.check(foe), gains(foe, silence(worlds))[0])

    def test_two_worlds_by_straight_lines(self):
        for deeds in range(1, 7):
            for kind in ("tied", "near", "alike", "mixed"):
                for seed in range(12):
                    case = drawn_case(2, deeds, kind, f"roof {seed}")
                    self.assertEqual(worth(most(case)[0]), roof_of_two(case))

    def test_no_rule_gains_more(self):
        for number, case in enumerate(drawn_cases()):
            gain = worth(most(case)[0])
            for rule in tried_rules(case, number):
                for against in (False, True):
                    self.assertLessEqual(worth(gains(case, rule, against)[0]), gain)

    def test_nor_more_than_the_bound_by_other_shares(self):
        for number, case in enumerate(drawn_cases()):
            prices = most(case)[2]
            for seed in range(2):
                other = case.with_shares(share_row(case.worlds(), random.Random(f"{number} {seed}"), 2))
                highest = worth(bound(case, prices, other.shares()))
                self.assertLessEqual(worth(most(other)[0]), highest)
                for rule in tried_rules(case, seed):
                    self.assertLessEqual(reckoned_gains(other, rule, False)[0], highest)

    def test_told_again_alike_also_where_what_was_told_was_changed(self):
        for case in drawn_cases()[::5]:
            before = repr(case)
            told = most(case)
            kept = repr(told)
            self.assertEqual(repr(most(case)), kept)
            self.assertEqual(repr(most(Case(case.shares(), case.hearer(), case.teller()))), kept)
            apart = [one for again in (told, most(case)) for rows in again[2] for one in lists_in(rows)]
            self.assertEqual(len({id(one) for one in apart}), len(apart))
            spoil(told[2][0])
            spoil(told[2][1])
            spoil(told[1].rows())
            self.assertEqual(repr(most(case)), kept)
            self.assertEqual(repr(case), before)
        self.assertEqual(most(case=case), most(case))

    def test_moved_and_multiplied(self):
        for case in drawn_cases()[1::3]:
            gain = worth(most(case)[0])
            by, more = Fraction(7, 3), Fraction(-11, 4)
            self.assertEqual(worth(self.check(changed(case, teller=lambda one: one + more))), gain + more)
            self.assertEqual(worth(self.check(changed(case, teller=lambda one: one * by))), gain * by)
            self.assertEqual(worth(self.check(changed(case, hearer=lambda one: one + more))), gain)
            self.assertEqual(worth(self.check(changed(case, hearer=lambda one: one * by))), gain)

    def test_called_otherwise(self):
        for number, case in enumerate(drawn_cases()[::2]):
            dice = random.Random(number)
            worlds, deeds = list(range(case.worlds())), list(range(case.deeds()))
            dice.shuffle(worlds)
            dice.shuffle(deeds)
            rows = [[[rows[world][deed] for deed in deeds] for world in worlds] for rows in (case.hearer(), case.teller())]
            self.assertEqual(self.check(Case([case.shares()[world] for world in worlds], *rows)), most(case)[0])

    def test_great_cases_take_little_time(self):
        begun = time.process_time()
        for kind in ("tied", "near", "alike", "mixed"):
            for seed in range(25):
                most(drawn_case(5, 6, kind, f"time {seed}"))
        self.assertLess(time.process_time() - begun, 30)


if __name__ == "__main__":
    unittest.main()
