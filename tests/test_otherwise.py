"""Cases and rules called otherwise (point 26, and part g of point 3)."""

from fractions import Fraction
import itertools
import random
import unittest

from besttelling.against import gained, limit, near
from besttelling.ahead import ahead, lost
from besttelling.cases import Case
from besttelling.doing import deeds_done, gains
from besttelling.errors import NoOrder
from besttelling.mosts import most
from besttelling.otherwise import renamed, renamed_rule
from besttelling.roofs import helps, roof, silent
from besttelling.rules import Rule
from besttelling.ruletexts import read_rule
from tests.things import (
    copied, drawn_case, drawn_cases, drawn_rule, no_lists, no_wholes, reckoned_masses, reckoned_worths, share_row,
    whole_case, worth,
)


def order_of(many, seed):
    """An order of numbers, always the same one."""
    order = list(range(many))
    random.Random(f"{many} {seed}").shuffle(order)
    return order


def turned(order):
    """The order by which what was called otherwise is called back."""
    return [order.index(number) for number in range(len(order))]


def no_orders(many):
    """Things that are no list of all numbers below many, each once."""
    order = list(range(many))
    things = no_lists() + [
        [], order[:-1], order + [many], order + [0], order + order, [number + 1 for number in order], tuple(order),
        [str(number) for number in order], [[number] for number in order], [order], "".join(map(str, order)), [-1] * many,
        order[:-1] + [-1], order[:-1] + [10 ** 29], [many] + order[1:],
    ]
    things += [order[:-1] + [thing] for thing in no_wholes()] + [[thing] + order[1:] for thing in no_wholes()]
    if many > 1:
        things += [[0] * many, order[:-1] + [0], [False, True] + order[2:], [number - 1 for number in order]]
    if many == 2:
        things += [[True, False], [1, False], [True, 0], [0, True]]
    return things


def has_no_ties(case, rule):
    """Whether behind each word that is said one deed alone is best for the hearer."""
    for word in range(len(rule)):
        weights = reckoned_masses(case, rule, word)
        found = reckoned_worths(case.hearer(), weights)
        if sum(weights) > 0 and found.count(max(found)) > 1:
            return False
    return True


class Renamed(unittest.TestCase):
    def test_small_ones_by_hand(self):
        case = whole_case([(1, 6), (1, 3), (1, 2)], [[1, 2], [3, 4], [5, 6]], [[10, 20], [30, 40], [50, 60]])
        told = renamed(case, [2, 0, 1], [1, 0])
        self.assertIsInstance(told, Case)
        self.assertEqual(told, whole_case([(1, 2), (1, 6), (1, 3)], [[6, 5], [2, 1], [4, 3]], [[60, 50], [20, 10], [40, 30]]))
        self.assertEqual(renamed(deeds=[1, 0], worlds=[2, 0, 1], case=case), told)
        rule = read_rule("1/2 1/3 1/6 | 0 1/4 3/4")
        told = renamed_rule(rule, [1, 0], [2, 0, 1])
        self.assertIsInstance(told, Rule)
        self.assertEqual(str(told), "3/4 0 1/4 | 1/6 1/2 1/3")
        self.assertEqual(renamed_rule(words=[2, 0, 1], rule=rule, worlds=[1, 0]), told)

    def test_every_order_of_small_ones(self):
        case = drawn_case(3, 3)
        rule = drawn_rule(3, 3)
        for worlds in itertools.permutations(range(3)):
            for others in itertools.permutations(range(3)):
                told = renamed(case, list(worlds), list(others))
                self.assertEqual(told.shares(), [case.shares()[world] for world in worlds])
                self.assertEqual(told.hearer(), [[case.hearer()[world][deed] for deed in others] for world in worlds])
                self.assertEqual(told.teller(), [[case.teller()[world][deed] for deed in others] for world in worlds])
                named = renamed_rule(rule, list(worlds), list(others))
                self.assertEqual(named.rows(), [[rule.rows()[world][word] for word in others] for world in worlds])

    def test_called_back(self):
        for number, case in enumerate(drawn_cases(2)):
            worlds, deeds = order_of(case.worlds(), number), order_of(case.deeds(), number)
            told = renamed(case, worlds, deeds)
            self.assertEqual(renamed(told, turned(worlds), turned(deeds)), case)
            self.assertEqual(renamed(case, list(range(case.worlds())), list(range(case.deeds()))), case)
            rule = drawn_rule(case.worlds(), 1 + number % 30, number)
            words = order_of(len(rule), number)
            named = renamed_rule(rule, worlds, words)
            self.assertEqual(renamed_rule(named, turned(worlds), turned(words)), rule)

    def test_handed_in_stays(self):
        case, rule = drawn_case(4, 5), drawn_rule(4, 6)
        before = (repr(case), repr(rule))
        worlds, deeds, words = order_of(4, 1), order_of(5, 1), order_of(6, 1)
        orders = copied([worlds, deeds, words])
        told, named = renamed(case, worlds, deeds), renamed_rule(rule, worlds, words)
        self.assertEqual([worlds, deeds, words], orders)
        after = (repr(told), repr(named))
        for order in (worlds, deeds, words):
            order.clear()
        self.assertEqual((repr(case), repr(rule)), before)
        self.assertEqual((repr(told), repr(named)), after)


class AllTheSame(unittest.TestCase):
    def test_gains_and_the_most(self):
        apart = 0
        for number, case in enumerate(drawn_cases(2)):
            worlds, deeds = order_of(case.worlds(), number), order_of(case.deeds(), f"deeds {number}")
            rule = drawn_rule(case.worlds(), 4, number)
            words = order_of(4, number)
            told, named = renamed(case, worlds, deeds), renamed_rule(rule, worlds, words)
            for against in (False, True):
                self.assertEqual(gains(told, named, against), gains(case, rule, against))
                self.assertEqual(silent(told, against), silent(case, against))
            self.assertEqual(most(told)[0], most(case)[0])
            self.assertEqual(helps(told), helps(case))
            self.assertEqual((ahead(told, named)[0], lost(told, named)), (ahead(case, rule)[0], lost(case, rule)))
            if has_no_ties(case, rule):
                apart += 1
                for against in (False, True):
                    done = deeds_done(case, rule, against)
                    self.assertEqual(deeds_done(told, named, against),
                                     [None if done[word] is None else deeds.index(done[word]) for word in words])
        self.assertGreater(apart, 50)

    def test_roofs(self):
        for number, case in enumerate(drawn_cases()[1::3]):
            worlds, deeds = order_of(case.worlds(), number), order_of(case.deeds(), number)
            dice = random.Random(number)
            one, other = share_row(case.worlds(), dice), share_row(case.worlds(), dice)
            told = roof(renamed(case, worlds, deeds), *[[shares[world] for world in worlds] for shares in (one, other)])
            self.assertEqual([corner[:2] for corner in told], [corner[:2] for corner in roof(case, one, other)])

    def test_limits(self):
        for number in range(60):
            case = drawn_case(2, 1 + number % 6, ("tied", "mixed", "near")[number % 3], f"limits {number}")
            for worlds in ([0, 1], [1, 0]):
                told = renamed(case, worlds, order_of(case.deeds(), number))
                self.assertEqual(limit(told), limit(case))
                self.assertEqual(gained(told) is None, gained(case) is None)
                found = worth(gains(told, near(told, (1, 1000)), True)[0])
                self.assertGreater(found, worth(limit(case)) - Fraction(1, 1000))


class NoOrders(unittest.TestCase):
    def refused(self, part, tell, *things):
        with self.assertRaises(NoOrder) as caught:
            tell(*things)
        self.assertEqual(caught.exception.part, part)
        self.assertIsInstance(caught.exception, ValueError)

    def test_cases(self):
        for worlds, deeds in ((1, 1), (2, 3), (3, 2), (5, 6), (2, 2)):
            case = drawn_case(worlds, deeds)
            for thing in no_orders(worlds):
                self.refused("worlds", renamed, case, thing, order_of(deeds, 0))
                self.refused("worlds", renamed, case, thing, thing)
                self.refused("worlds", renamed, case, thing, None)
            for thing in no_orders(deeds):
                self.refused("deeds", renamed, case, order_of(worlds, 0), thing)

    def test_rules(self):
        for worlds, words in ((1, 1), (2, 3), (3, 2), (5, 30), (2, 2)):
            rule = drawn_rule(worlds, words)
            for thing in no_orders(worlds):
                self.refused("worlds", renamed_rule, rule, thing, order_of(words, 0))
                self.refused("worlds", renamed_rule, rule, thing, None)
            for thing in no_orders(words):
                self.refused("words", renamed_rule, rule, order_of(worlds, 0), thing)


if __name__ == "__main__":
    unittest.main()
