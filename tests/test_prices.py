"""Prices that are let by, and their bound (point 16)."""

from fractions import Fraction
import random
import unittest

from besttelling.cases import Case
from besttelling.doing import gains
from besttelling.errors import NoShares
from besttelling.mosts import most
from besttelling.prices import bound, lets_prices
from tests.things import (
    Gruff, copied, dear, drawn_case, drawn_cases, drawn_instead, drawn_rule, no_lists, no_ratios, no_shares, plain_things,
    ratio, row_worths, share_row, worth,
)

JUDGE = Case([(7, 10), (3, 10)], [[(1, 1), (0, 1)], [(0, 1), (1, 1)]], [[(0, 1), (1, 1)], [(0, 1), (1, 1)]])
# Convicting an innocent one costs the hearer 1, which is what the teller gains by it; a guilty one pays for two.
PRICES = ([(0, 1), (2, 1)], [[(0, 1), (0, 1)], [(1, 1), (0, 1)]])
LITTLE = Fraction(1, 10 ** 29)


class LetsPrices(unittest.TestCase):
    def judged(self, case, thing, told):
        answer = lets_prices(case, thing)
        self.assertIs(answer, told)

    def test_named_ones(self):
        self.judged(JUDGE, PRICES, True)
        self.judged(JUDGE, ([(1, 1), (1, 1)], [[(0, 1)] * 2] * 2), True)
        self.judged(JUDGE, ([(0, 1), (1, 1)], [[(0, 1)] * 2] * 2), False)
        self.judged(JUDGE, ([(0, 1), (2, 1)], [[(0, 1), (1, 1)], [(0, 1), (0, 1)]]), False)
        self.assertIs(lets_prices(thing=PRICES, case=JUDGE), True)

    def test_just_at_the_least_price_and_a_little_below(self):
        for case in drawn_cases():
            for seed in range(2):
                instead = drawn_instead(case.deeds(), seed)
                least = dear(case, instead)
                self.judged(case, ([ratio(price) for price in least], instead), True)
                for world in range(case.worlds()):
                    for more, told in ((LITTLE, True), (Fraction(9, 2), True), (-LITTLE, False), (-9, False)):
                        prices = [ratio(price) for price in least]
                        prices[world] = ratio(least[world] + more)
                        self.judged(case, (prices, instead), told)

    def test_prices_that_were_told(self):
        for case in drawn_cases()[::3]:
            worlds, instead = most(case)[2]
            self.judged(case, (worlds, instead), True)
            self.judged(case, ([ratio(worth(one) + LITTLE) for one in worlds], instead), True)
            lower = [ratio(worth(one) - LITTLE) for one in worlds]
            self.judged(case, (lower, instead), False)
            for number in range(case.worlds()):
                self.judged(case, (worlds[:number] + [lower[number]] + worlds[number + 1:], instead), False)

    def test_no_tuple_of_two(self):
        worlds, instead = PRICES
        for thing in no_lists() + [[], [worlds, instead], (worlds,), (worlds, instead, instead), (instead, worlds)]:
            self.judged(JUDGE, thing, False)

    def test_worlds_that_are_none(self):
        worlds, instead = [(9, 1), (9, 1)], PRICES[1]
        for thing in no_lists() + [[], worlds[:1], worlds + [(9, 1)]]:
            self.judged(JUDGE, (thing, instead), False)
        for thing in no_ratios():
            self.judged(JUDGE, ([thing, (9, 1)], instead), False)
            self.judged(JUDGE, ([(9, 1), thing], instead), False)
        self.judged(JUDGE, (worlds, instead), True)

    def test_instead_that_is_none(self):
        worlds, instead = [(9, 1), (9, 1)], PRICES[1]
        for thing in no_lists() + [[], instead[:1], instead + [[(0, 1)] * 2], instead + [instead[0]]]:
            self.judged(JUDGE, (worlds, thing), False)
        for thing in no_lists() + [[], [(0, 1)], [(0, 1)] * 3]:
            self.judged(JUDGE, (worlds, [thing, instead[1]]), False)
            self.judged(JUDGE, (worlds, [instead[0], thing]), False)
        for thing in no_ratios() + [(-1, 1), (-1, 10 ** 29)]:
            self.judged(JUDGE, (worlds, [[(0, 1), thing], instead[1]]), False)
            self.judged(JUDGE, (worlds, [instead[0], [thing, (0, 1)]]), False)
        for thing in no_ratios() + [(1, 1), (-1, 1), (1, 10 ** 29), (-1, 10 ** 29)]:
            self.judged(JUDGE, (worlds, [[thing, (0, 1)], instead[1]]), False)
            self.judged(JUDGE, (worlds, [instead[0], [(1, 1), thing]]), False)

    def test_below_nought_instead_and_instead_of_itself(self):
        for worlds in range(1, 6):
            for deeds in range(1, 7):
                case = drawn_case(worlds, deeds)
                high = [(10 ** 9, 1)] * worlds
                good = drawn_instead(deeds, 3)
                self.judged(case, (high, good), True)
                for d in range(deeds):
                    for e in range(deeds):
                        for one in ((-1, 1), (-1, 10 ** 20), (1, 1), (1, 10 ** 20)):
                            rows = copied(good)
                            rows[d][e] = one
                            self.judged(case, (high, rows), d != e and one[0] > 0)

    def test_what_is_handed_in_stays(self):
        prices = copied(PRICES[0]), copied(PRICES[1])
        before = repr(JUDGE)
        for _ in range(2):
            lets_prices(JUDGE, prices)
            bound(JUDGE, prices)
        self.assertEqual((prices, repr(JUDGE)), (PRICES, before))

    def test_of_anything(self):
        for case in drawn_cases()[::9]:
            for thing in plain_things() + [Gruff(), (Gruff(), Gruff()), ([Gruff()], [Gruff()]), ([], [])]:
                self.judged(case, thing, False)


class Bound(unittest.TestCase):
    def test_named_ones(self):
        self.assertEqual(bound(JUDGE, PRICES), (3, 5))
        self.assertEqual(bound(JUDGE, PRICES, None), (3, 5))
        self.assertEqual(bound(JUDGE, PRICES, [(7, 10), (3, 10)]), (3, 5))
        self.assertEqual(bound(JUDGE, PRICES, [(1, 3), (2, 3)]), (4, 3))
        self.assertEqual(bound(shares=[(0, 1), (1, 1)], prices=PRICES, case=JUDGE), (2, 1))
        self.assertEqual(bound(JUDGE, prices=PRICES, shares=None), (3, 5))

    def test_by_the_oracle(self):
        for number, case in enumerate(drawn_cases()):
            instead = drawn_instead(case.deeds(), number)
            prices = ([ratio(price) for price in dear(case, instead)], instead)
            for shares in (case.shares(), share_row(case.worlds(), random.Random(number))):
                told = sum(one * two for one, two in zip(row_worths(shares), row_worths(prices[0])))
                self.assertEqual(bound(case, prices, shares), ratio(told))
                other = case.with_shares(shares)
                self.assertEqual(bound(other, prices), ratio(told))
                for words in (1, 2, 5):
                    for against in (False, True):
                        gain = gains(other, drawn_rule(case.worlds(), words, number), against)[0]
                        self.assertLessEqual(worth(gain), told)

    def test_no_shares(self):
        for worlds in range(1, 6):
            case = drawn_case(worlds, 2)
            prices = most(case)[2]
            # None stands for the case's own shares here.
            for thing in [thing for thing in no_shares(worlds) if thing is not None]:
                with self.assertRaises(NoShares) as caught:
                    bound(case, prices, thing)
                self.assertIsInstance(caught.exception, ValueError)
                self.assertNotIsInstance(caught.exception, (LookupError, ArithmeticError, RuntimeError))

    def test_shares_stay(self):
        shares = [(1, 3), (2, 3)]
        bound(JUDGE, PRICES, shares)
        self.assertEqual(shares, [(1, 3), (2, 3)])


if __name__ == "__main__":
    unittest.main()
