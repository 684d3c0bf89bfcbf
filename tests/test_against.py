"""Ties against the teller, of two worlds (points 24 and 25, and part f of point 3)."""

from fractions import Fraction
import random
import unittest

from besttelling.against import gained, limit, near
from besttelling.cases import Case
from besttelling.doing import gains
from besttelling.errors import NoPart, NotTwo
from besttelling.hearing import chance
from besttelling.mosts import most
from besttelling.roofs import silent
from besttelling.rules import Rule
from besttelling.telling import all_told, silence
from tests.things import (
    drawn_case, drawn_rule, no_ratios, one_gain, ratio, reckoned_deed, reckoned_gains, reckoned_worths, row_worths,
    share_row, spoil, whole_case, worth,
)

JUDGE = whole_case([(7, 10), (3, 10)], [[1, 0], [0, 1]], [[0, 1], [0, 1]])
SIZES = [Fraction(1, 2), Fraction(5), Fraction(1, 10 ** 6), Fraction(1, 10 ** 29), Fraction(3, 10 ** 30 - 1),
         Fraction(10 ** 30 - 1)]


def worth_at(case, part):
    """What silence is worth with ties against where the second world has this share, reckoned here."""
    weights = [1 - part, part]
    return reckoned_worths(case.teller(), weights)[reckoned_deed(case, weights, True)]


def breaks_of(case):
    """All shares at which silence might bend or leap, and the case's own one, rising."""
    parts = {Fraction(0), Fraction(1), worth(case.shares()[1])}
    for rows in (case.hearer(), case.teller()):
        first, second = [row_worths(row) for row in rows]
        for d in range(case.deeds()):
            for e in range(d):
                here, there = first[d] - first[e], second[d] - second[e]
                if here * there < 0:
                    parts.add(here / (here - there))
    return sorted(parts)


def line_through(case, low, high):
    """The straight line that silence is worth between two breaks."""
    one, two = low + (high - low) / 3, low + (high - low) * 2 / 3
    rise = (worth_at(case, two) - worth_at(case, one)) / (two - one)
    return lambda part: worth_at(case, one) + rise * (part - one)


def reckoned_limit(case):
    """The limit, by straight lines between what silence comes near to at all breaks."""
    share, breaks = worth(case.shares()[1]), breaks_of(case)
    if share in (0, 1):
        return worth_at(case, share)
    points = [(part, worth_at(case, part)) for part in breaks]
    for low, high in zip(breaks, breaks[1:]):
        line = line_through(case, low, high)
        points += [(low, line(low)), (high, line(high))]
    found = [height for part, height in points if part == share]
    for low, one in points:
        for high, two in points:
            if low < share < high:
                found.append((one * (high - share) + two * (share - low)) / (high - low))
    return max(found)


def is_reached(case):
    """Whether some rule gains the limit: by a straight line above silence that touches it on both sides of the share."""
    share, breaks = worth(case.shares()[1]), breaks_of(case)
    if share in (0, 1):
        return True
    goal = reckoned_limit(case)
    lines = [(low, high, line_through(case, low, high)) for low, high in zip(breaks, breaks[1:])]
    slopes = [(line(part) - goal) / (part - share) for low, high, line in lines for part in (low, high) if part > share]
    slope = max(slopes)
    touched = [(part, part) for part in breaks if worth_at(case, part) == goal + slope * (part - share)]
    touched += [(low, high) for low, high, line in lines
                if all(line(part) == goal + slope * (part - share) for part in (low, high))]
    return any(high <= share for low, high in touched) and any(low >= share for low, high in touched)


def tie_shares(case):
    """Shares just where the hearer's deeds tie."""
    return [part for part in breaks_of(case) if len(set(reckoned_worths(case.hearer(), [1 - part, part]))) < case.deeds()]


def doubled(case, seed):
    """The case with a deed twice for the hearer, each time with gains of the teller's own: these tie everywhere."""
    dice = random.Random(seed)
    return Case(case.shares(), [row + [row[0]] for row in case.hearer()],
                [row + [ratio(one_gain("mixed", dice))] for row in case.teller()])


def some_cases():
    """Cases of two worlds: drawn ones, with shares of nought, with shares where deeds tie, with deeds that always tie."""
    drawn = [drawn_case(2, deeds, kind, f"against {seed}") for deeds in range(1, 6)
             for kind in ("tied", "near", "alike", "mixed") for seed in range(3)]
    drawn += [doubled(doubled(case, f"once {number}"), f"twice {number}")
              for number, case in enumerate(drawn) if case.deeds() < 5]
    told = list(drawn)
    for number, case in enumerate(drawn):
        told += [case.with_shares([ratio(1 - part), ratio(part)]) for part in tie_shares(case)[:4]]
        told.append(case.with_shares([[(1, 1), (0, 1)], [(0, 1), (1, 1)], [(1, 2), (1, 2)]][number % 3]))
    return told


class Against(unittest.TestCase):
    def check_rule(self, case, rule):
        self.assertIsInstance(rule, Rule)
        self.assertEqual(rule.worlds(), 2)
        self.assertLessEqual(len(rule), 2)
        for word in range(len(rule)):
            self.assertGreaterEqual(worth(chance(case, rule, word)), 0)
        return reckoned_gains(case, rule, True)[0]

    def check(self, case, sizes):
        before = repr(case)
        goal = limit(case)
        self.assertEqual(worth(goal), reckoned_limit(case))
        self.assertLessEqual(worth(goal), worth(most(case)[0]))
        rule = gained(case)
        self.assertEqual(rule is not None, is_reached(case))
        if rule is not None:
            self.assertEqual(self.check_rule(case, rule), worth(goal))
            self.assertEqual(gains(case, rule, True)[0], goal)
        for far in sizes:
            gain = self.check_rule(case, near(case, ratio(far)))
            self.assertGreater(gain, worth(goal) - far)
            self.assertLessEqual(gain, worth(goal))
        for number in range(3):
            for words in (1, 2, 3, 7):
                tried = drawn_rule(2, words, f"{number} {words}")
                self.assertLessEqual(reckoned_gains(case, tried, True)[0], worth(goal))
        for tried in (silence(2), all_told(2)):
            self.assertLessEqual(worth(gains(case, tried, True)[0]), worth(goal))
        self.assertEqual(repr(case), before)
        return rule

    def test_cases_of_all_kinds(self):
        told = {True: 0, False: 0}
        for number, case in enumerate(some_cases()):
            rule = self.check(case, [SIZES[number % len(SIZES)], Fraction(1, 10 ** (number % 30))])
            told[rule is None] += 1
        self.assertGreater(min(told.values()), 40)

    def test_sizes_of_fractions(self):
        for case in (JUDGE, JUDGE.with_shares([(1, 2), (1, 2)]), drawn_case(2, 6, seed=3), drawn_case(2, 5, "near", 5)):
            self.check(case, [Fraction(1, 10 ** figures) for figures in range(31)] + SIZES)

    def test_rules_beside_the_ties(self):
        # Rules that aim at beliefs a bit beside those where deeds tie come near, and never pass.
        for seed in range(10):
            case = drawn_case(2, 4, seed=f"beside {seed}").with_shares([(2, 5), (3, 5)])
            goal = worth(limit(case))
            parts = [part + shift for part in breaks_of(case) for shift in (0, Fraction(1, 10 ** 9), -Fraction(1, 10 ** 9))]
            share = Fraction(3, 5)
            for low in parts:
                for high in parts:
                    if 0 <= low < share < high <= 1:
                        often = (share - low) / (high - low)
                        first, second = often * (1 - high) / (1 - share), often * high / share
                        rule = Rule([[ratio(1 - first), ratio(first)], [ratio(1 - second), ratio(second)]])
                        self.assertLessEqual(reckoned_gains(case, rule, True)[0], goal)

    def test_known_by_hand(self):
        self.assertEqual((limit(JUDGE), gained(JUDGE)), ((3, 5), None))
        even = JUDGE.with_shares([(1, 2), (1, 2)])
        self.assertEqual((limit(even), gained(even), silent(even, True)), ((1, 1), None, (0, 1)))
        surely = JUDGE.with_shares([(2, 5), (3, 5)])
        self.assertEqual((limit(surely), gains(surely, gained(surely), True)[0]), ((1, 1), (1, 1)))
        # Two words are needed, and ties do not hinder.
        apart = whole_case([(1, 2), (1, 2)], [[2, 0, 1], [0, 2, 1]], [[1, 0, 0], [0, 1, 0]])
        self.assertEqual(limit(apart), (1, 1))
        self.assertEqual(gains(apart, gained(apart), True)[0], (1, 1))
        self.assertEqual(len(gained(apart)), 2)

    def test_deeds_that_tie_everywhere(self):
        # Of two deeds alike to the hearer the worse one for the teller is done, whatever is told: the limit bends where
        # the teller's worths cross, in the middle.
        case = whole_case([(1, 4), (3, 4)], [[0, 0], [0, 0]], [[2, 0], [0, 2]])
        self.assertEqual((limit(case), gained(case)), ((1, 2), silence(2)))
        self.assertEqual(limit(case.with_shares([(1, 2), (1, 2)])), (1, 1))
        case = whole_case([(1, 4), (3, 4)], [[0, 0, 1], [0, 0, -1]], [[2, 0, 3], [0, 2, 3]])
        self.check(case, SIZES)

    def test_all_in_one_world(self):
        for seed in range(30):
            for shares in ([(1, 1), (0, 1)], [(0, 1), (1, 1)]):
                case = drawn_case(2, 5, "tied", f"sure {seed}").with_shares(shares)
                self.assertEqual(limit(case), silent(case, True))
                self.assertEqual(gains(case, gained(case), True)[0], silent(case, True))
                self.assertEqual(gains(case, near(case, (1, 7)), True)[0], silent(case, True))

    def test_leap_at_the_end(self):
        # Where world 0 is sure the deeds tie, and a bit beside it the better one is done.
        case = whole_case([(1, 2), (1, 2)], [[0, 0], [0, 1]], [[0, 4], [0, 1]])
        self.check(case, SIZES)
        self.assertEqual((limit(case), limit(case.with_shares([(1, 1), (0, 1)]))), ((5, 2), (0, 1)))
        # From there on the roof falls: only near to sure beliefs as much is gained.
        case = whole_case([(1, 2), (1, 2)], [[0, 0, 0], [0, 1, 2]], [[0, 9, 0], [0, 0, 0]])
        self.check(case, SIZES)

    def test_no_more_than_two_words_and_told_again_alike(self):
        dice = random.Random(25)
        for seed in range(20):
            case = drawn_case(2, 6, "mixed", f"again {seed}").with_shares(share_row(2, dice))
            for tell in (lambda: gained(case), lambda: near(case, (1, 1000))):
                rule = tell()
                before = repr(rule)
                if rule is not None:
                    spoil(rule.rows())
                self.assertEqual(repr(tell()), before)
        self.assertEqual(limit(case=JUDGE), limit(JUDGE))
        self.assertEqual(near(far=(1, 9), case=JUDGE), near(JUDGE, (1, 9)))
        self.assertEqual(gained(case=JUDGE), gained(JUDGE))

    def test_not_two_ahead_of_no_part(self):
        for worlds in (1, 3, 4, 5):
            case = drawn_case(worlds, 2)
            for tell in (limit, gained, lambda case: near(case, (1, 2)), lambda case: near(case, None)):
                with self.assertRaises(NotTwo) as caught:
                    tell(case)
                self.assertEqual(caught.exception.many, worlds)
                self.assertIsInstance(caught.exception, ArithmeticError)
                self.assertNotIsInstance(caught.exception, (ZeroDivisionError, OverflowError))

    def test_no_part(self):
        for case in (JUDGE, JUDGE.with_shares([(1, 1), (0, 1)]), JUDGE.with_shares([(2, 5), (3, 5)])):
            for thing in no_ratios() + [(0, 1), (-1, 2), (-1, 1), (-1, 10 ** 29)]:
                with self.assertRaises(NoPart) as caught:
                    near(case, thing)
                self.assertIs(caught.exception.part, thing)


if __name__ == "__main__":
    unittest.main()
