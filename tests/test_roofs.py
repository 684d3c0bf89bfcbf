"""Roofs, what silence is worth, and whether telling helps (points 18 and 19, and part c of point 3)."""

from fractions import Fraction
import random
import unittest

from besttelling.cases import Case
from besttelling.doing import gains
from besttelling.errors import NoPart, NoShares
from besttelling.fewwords import few
from besttelling.hearing import chance
from besttelling.mosts import most
from besttelling.prices import bound, lets_prices
from besttelling.roofs import helps, roof, roof_at, silent
from besttelling.rules import Rule
from besttelling.telling import silence
from tests.things import (
    copied, dear, drawn_case, drawn_cases, drawn_instead, no_ratios, no_shares, ratio, reckoned_deed, reckoned_gains,
    reckoned_worths, row_worths, share_row, spoil, sure_shares, whole_case, worth,
)

JUDGE = whole_case([(7, 10), (3, 10)], [[1, 0], [0, 1]], [[0, 1], [0, 1]])


def between(one, other, part):
    """The shares at a part of the way, reckoned here."""
    return [ratio(first * (1 - part) + second * part) for first, second in zip(row_worths(one), row_worths(other))]


def most_at(case, one, other, part):
    return worth(most(case.with_shares(between(one, other, part)))[0])


def slope(low, high):
    return (worth(high[1]) - worth(low[1])) / (worth(high[0]) - worth(low[0]))


def reckoned_silence(case, part):
    """What silence is worth where the second of two worlds has this share."""
    weights = [1 - part, part]
    return reckoned_worths(case.teller(), weights)[reckoned_deed(case, weights, False)]


def reckoned_corners(case):
    """The corners from all in the first of two worlds to all in the second, by the hull over silence where deeds tie."""
    parts = {Fraction(0), Fraction(1)}
    first, second = [row_worths(row) for row in case.hearer()]
    for d in range(case.deeds()):
        for e in range(d):
            here, there = first[d] - first[e], second[d] - second[e]
            if here * there < 0:
                parts.add(here / (here - there))
    hull = []
    for part in sorted(parts):
        height = reckoned_silence(case, part)
        while len(hull) > 1 and (hull[-1][1] - hull[-2][1]) * (part - hull[-1][0]) <= (
                height - hull[-1][1]) * (hull[-1][0] - hull[-2][0]):
            hull.pop()
        hull.append((part, height))
    return hull


def ways(case, seed):
    """Ways for a case: drawn ones, from one world to another, and one on which no share is nought."""
    worlds = case.worlds()
    dice = random.Random(f"{case!r} {seed}")
    mixed = [ratio(Fraction(1, worlds))] * worlds
    return [(share_row(worlds, dice, 3), share_row(worlds, dice, 3)),
            (sure_shares(worlds, dice.randrange(worlds)), sure_shares(worlds, dice.randrange(worlds))),
            (mixed, share_row(worlds, dice, 9))]


class Corners(unittest.TestCase):
    def check_corner(self, case, one, other, told):
        self.assertIsInstance(told, tuple)
        part, gain, rule = told
        here = case.with_shares(between(one, other, worth(part)))
        self.assertEqual(gain, most(here)[0])
        self.assertIsInstance(rule, Rule)
        self.assertEqual(gains(here, rule)[0], gain)
        self.assertEqual(reckoned_gains(here, rule, False)[0], worth(gain))
        self.assertLessEqual(len(rule), sum(1 for share in here.shares() if share != (0, 1)))
        self.assertLessEqual(len(rule), case.deeds())
        for word in range(len(rule)):
            self.assertGreater(worth(chance(here, rule, word)), 0)

    def check(self, case, one, other):
        before = (repr(case), copied(one), copied(other))
        corners = roof(case, one, other)
        self.assertEqual((repr(case), one, other), before)
        self.assertIsInstance(corners, list)
        for told in corners:
            self.check_corner(case, one, other, told)
        parts = [worth(told[0]) for told in corners]
        if one == other:
            self.assertEqual([told[0] for told in corners], [(0, 1)])
            return corners
        self.assertEqual((corners[0][0], corners[-1][0]), ((0, 1), (1, 1)))
        self.assertEqual(parts, sorted(set(parts)))
        dice = random.Random(repr(before))
        for low, high in zip(corners, corners[1:]):
            for tried in (Fraction(1, 2), Fraction(dice.randint(1, 99), 100)):
                part = worth(low[0]) + tried * (worth(high[0]) - worth(low[0]))
                self.assertEqual(most_at(case, one, other, part), worth(low[1]) + tried * (worth(high[1]) - worth(low[1])))
        for low, middle, high in zip(corners, corners[1:], corners[2:]):
            self.assertGreater(slope(low, middle), slope(middle, high))
        return corners

    def test_cases_of_all_sizes_and_kinds(self):
        for case in drawn_cases(1):
            for one, other in ways(case, 0):
                self.check(case, one, other)

    def test_many_corners(self):
        # One mind, each deed best near a share of its own: the roof bends at many parts.
        found = 0
        for worlds in range(2, 6):
            for deeds in (5, 6):
                for seed in range(3):
                    case = drawn_case(worlds, deeds, seed=f"corners {seed}")
                    alike = Case(case.shares(), case.hearer(), case.hearer())
                    for one, other in ways(case, seed)[1:]:
                        found = max(found, len(self.check(case, one, other)), len(self.check(alike, one, other)))
        self.assertGreater(found, 4)

    def test_two_worlds_by_the_hull(self):
        for kind in ("tied", "near", "mixed", "alike"):
            for deeds in range(1, 7):
                for seed in range(6):
                    case = drawn_case(2, deeds, kind, f"hull {seed}")
                    told = [(worth(part), worth(gain)) for part, gain, rule in roof(case, [(1, 1), (0, 1)], [(0, 1), (1, 1)])]
                    self.assertEqual(told, reckoned_corners(case))
                    back = [(1 - worth(part), worth(gain))
                            for part, gain, rule in roof(case, [(0, 1), (1, 1)], [(1, 1), (0, 1)])]
                    self.assertEqual(back[::-1], told)

    def test_known_by_hand(self):
        corners = self.check(JUDGE, [(1, 1), (0, 1)], [(0, 1), (1, 1)])
        self.assertEqual([told[:2] for told in corners], [((0, 1), (0, 1)), ((1, 2), (1, 1)), ((1, 1), (1, 1))])
        self.assertEqual([str(told[2]) for told in corners], ["1 | 1"] * 3)
        # On a way that ends at the bend it is no corner between the ends.
        corners = self.check(JUDGE, [(1, 1), (0, 1)], [(1, 2), (1, 2)])
        self.assertEqual([told[:2] for told in corners], [((0, 1), (0, 1)), ((1, 1), (1, 1))])

    def test_straight_roof_has_its_ends_alone(self):
        # What silence is worth bends here, but the roof over it is straight.
        case = whole_case([(1, 2), (1, 2)], [[1, 0], [0, 1]], [[0, -1], [-1, 0]])
        self.assertEqual(len(self.check(case, [(1, 1), (0, 1)], [(0, 1), (1, 1)])), 2)
        self.assertEqual(len(self.check(JUDGE, [(9, 10), (1, 10)], [(3, 5), (2, 5)])), 2)

    def test_same_lists(self):
        for case in drawn_cases()[::5]:
            shares = case.shares()
            corners = self.check(case, shares, list(shares))
            self.assertEqual(corners[0][1], most(case)[0])
            self.assertEqual(self.check(case, shares, shares), corners)

    def test_one_world(self):
        case = drawn_case(1, 4)
        self.assertEqual(roof(case, [(1, 1)], [(1, 1)]), [((0, 1), most(case)[0], silence(1))])

    def test_the_cases_own_shares_do_not_matter(self):
        for case in drawn_cases()[::7]:
            one, other = ways(case, 1)[0]
            self.assertEqual(roof(case, one, other), roof(case.with_shares(one), one, other))

    def test_told_again_alike(self):
        for case in drawn_cases()[::9]:
            one, other = ways(case, 2)[0]
            corners = roof(case, one, other)
            before = repr(corners)
            spoil(corners)
            self.assertEqual(repr(roof(case, one, other)), before)
            told = roof(case, one, other)
            spoil(one)
            spoil(other)
            self.assertEqual(repr(told), before)

    def test_by_name(self):
        one, other = [(9, 10), (1, 10)], [(1, 5), (4, 5)]
        self.assertEqual(roof(other=other, case=JUDGE, one=one), roof(JUDGE, one, other))

    def test_no_shares(self):
        for worlds in (1, 2, 5):
            case = drawn_case(worlds, 2)
            good = case.shares()
            for thing in no_shares(worlds):
                for one, other in ((thing, good), (good, thing), (thing, thing)):
                    with self.assertRaises(NoShares) as caught:
                        roof(case, one, other)
                    self.assertIsInstance(caught.exception, ValueError)


class At(unittest.TestCase):
    def test_told_corners(self):
        for case in drawn_cases()[::3]:
            one, other = ways(case, 3)[1 if case.worlds() == 2 else 0]
            corners = roof(case, one, other)
            before = repr(corners)
            for part in [told[0] for told in corners] + [(0, 1), (1, 1), (1, 2), (1, 3), (99, 100)]:
                self.assertEqual(worth(roof_at(corners, part)), most_at(case, one, other, worth(part)))
            self.assertEqual(repr(corners), before)

    def test_any_list(self):
        corners = [((0, 1), (-2, 1), None), ((1, 4), (6, 1), "x"), ((1, 2), (-1, 3), [1]), ((1, 1), (5, 1), 7)]
        for part, gain in [
                ((0, 1), (-2, 1)), ((1, 4), (6, 1)), ((1, 2), (-1, 3)), ((1, 1), (5, 1)), ((1, 8), (2, 1)),
                ((3, 8), (17, 6)), ((3, 4), (7, 3)), ((1, 100), (-42, 25))]:
            self.assertEqual(roof_at(corners, part), gain)
        self.assertEqual(roof_at([((0, 1), (1, 2), 0), ((1, 1), (1, 2), 0)], (10 ** 29, 10 ** 30 - 1)), (1, 2))

    def test_any_list_by_straight_lines(self):
        dice = random.Random(18)
        for many in range(2, 9):
            inner = sorted(dice.sample(range(1, 60), many - 2))
            parts = [Fraction(0)] + [Fraction(part, 60) for part in inner] + [Fraction(1)]
            heights = [Fraction(dice.randint(-99, 99), dice.randint(1, 9)) for _ in parts]
            corners = [(ratio(part), ratio(height), None) for part, height in zip(parts, heights)]
            for tried in range(121):
                part = Fraction(tried, 120)
                at = max(number for number in range(many - 1) if parts[number] <= part)
                rise = (heights[at + 1] - heights[at]) / (parts[at + 1] - parts[at])
                self.assertEqual(worth(roof_at(corners, ratio(part))), heights[at] + rise * (part - parts[at]))

    def test_a_list_of_one(self):
        for own in ((0, 1), (1, 1), (1, 3)):
            for part in ((0, 1), (1, 1), (1, 3), (2, 3)):
                self.assertEqual(roof_at([(own, (7, 5), None)], part), (7, 5))

    def test_by_name(self):
        self.assertEqual(roof_at(part=(1, 2), corners=[((0, 1), (0, 1), 0), ((1, 1), (1, 1), 0)]), (1, 2))

    def test_no_part(self):
        lists = [[((0, 1), (0, 1), None), ((1, 1), (1, 1), None)], [((0, 1), (3, 1), None)]]
        for thing in no_ratios() + [(2, 1), (-1, 2), (-1, 1), (3, 2), (10 ** 29 + 1, 10 ** 29), (-1, 10 ** 29)]:
            for corners in lists:
                with self.assertRaises(NoPart) as caught:
                    roof_at(corners, thing)
                self.assertIs(caught.exception.part, thing)
                self.assertIsInstance(caught.exception, LookupError)
                self.assertNotIsInstance(caught.exception, (IndexError, KeyError))


class Silence(unittest.TestCase):
    def test_for_and_against(self):
        for case in drawn_cases(3):
            rule = silence(case.worlds())
            self.assertEqual(worth(silent(case)), reckoned_gains(case, rule, False)[0])
            self.assertEqual(silent(case, False), silent(case))
            self.assertEqual(worth(silent(case, True)), reckoned_gains(case, rule, True)[0])
            self.assertLessEqual(worth(silent(case, True)), worth(silent(case)))

    def test_known_by_hand(self):
        even = JUDGE.with_shares([(1, 2), (1, 2)])
        self.assertEqual((silent(even), silent(even, True), silent(JUDGE)), ((1, 1), (0, 1), (0, 1)))
        self.assertEqual(silent(against=True, case=even), (0, 1))

    def test_helps_just_where_the_most_is_more(self):
        told = {True: 0, False: 0}
        for case in drawn_cases(3):
            answer = helps(case)
            self.assertIs(answer, worth(most(case)[0]) > reckoned_gains(case, silence(case.worlds()), False)[0])
            told[answer] += 1
        self.assertGreater(min(told.values()), 50)
        self.assertIs(helps(case=JUDGE), True)
        self.assertIs(helps(JUDGE.with_shares([(1, 2), (1, 2)])), False)

    def test_helps_never(self):
        for seed in range(20):
            for case in (drawn_case(1, 6, "tied", seed), drawn_case(5, 1, "mixed", seed)):
                self.assertIs(helps(case), False)
            for worlds in range(2, 6):
                case = drawn_case(worlds, 4, "mixed", f"contrary {seed}")
                contrary = [[ratio(-worth(one)) for one in row] for row in case.hearer()]
                self.assertIs(helps(Case(case.shares(), case.hearer(), contrary)), False)

    def test_roof_is_nowhere_lower_than_silence(self):
        for case in drawn_cases()[::2]:
            one, other = ways(case, 4)[0]
            corners = roof(case, one, other)
            for part in range(0, 11):
                here = case.with_shares(between(one, other, Fraction(part, 10)))
                self.assertGreaterEqual(worth(roof_at(corners, ratio(Fraction(part, 10)))), worth(silent(here)))

    def test_no_prices_bound_lower_than_the_roof(self):
        for case in drawn_cases()[1::4]:
            prices = most(case)[2]
            one, other = ways(case, 5)[0]
            corners = roof(case, one, other)
            for part in range(0, 11):
                here = between(one, other, Fraction(part, 10))
                self.assertLessEqual(worth(roof_at(corners, ratio(Fraction(part, 10)))), worth(bound(case, prices, here)))
            # So it is by whatever prices are let by.
            instead = drawn_instead(case.deeds(), repr(one))
            drawn = ([ratio(price) for price in dear(case, instead)], instead)
            self.assertIs(lets_prices(case, drawn), True)
            for part, gain, rule in corners:
                self.assertLessEqual(worth(gain), worth(bound(case, drawn, between(one, other, worth(part)))))
            # At the case's own shares the most's prices lie on the roof itself.
            self.assertEqual(roof_at(roof(case, case.shares(), other), (0, 1)), bound(case, prices))
            self.assertEqual(gains(case, few(case))[0], bound(case, prices))


if __name__ == "__main__":
    unittest.main()
