"""Several hearers made one (points 22 and 23, and part e of point 3)."""

from fractions import Fraction
import itertools
import math
import random
import unittest

from besttelling.cases import Case
from besttelling.doing import best, gains
from besttelling.errors import NoCase, NoCounts, NoHearers, NoWord, Unlike, Unsaid
from besttelling.hearing import beliefs
from besttelling.mosts import most
from besttelling.ruletexts import read_rule
from besttelling.several import deed_lists, each_does, joined
from tests.things import (
    copied, drawn_rule, gain_rows, no_lists, no_ratios, no_wholes, no_words, one_gain, ratio, reckoned_masses,
    reckoned_worths, share_row, spoil, worth,
)

COUNTS = [list(counts) for many in (1, 2, 3) for counts in itertools.product(range(1, 7), repeat=many)
          if math.prod(counts) <= 6]
LITTLE = gain_rows(2, 2, "little")
EVEN = [(1, 2), (1, 2)]


def lists_of(counts):
    """The lists of deeds, reckoned here."""
    return list(itertools.product(*[range(count) for count in counts]))


def drawn_gains(worlds, deeds, kind, dice):
    return [[ratio(one_gain(kind, dice)) for _ in range(deeds)] for _ in range(worlds)]


def drawn_parts(worlds, counts, kind="mixed", seed=0):
    """Shares, hearers and teller, new lists all of them."""
    dice = random.Random(f"{worlds} {counts} {kind} {seed}")
    hearers = [drawn_gains(worlds, count, kind, dice) for count in counts]
    return share_row(worlds, dice, 3), hearers, drawn_gains(worlds, len(lists_of(counts)), kind, dice)


class Joined(unittest.TestCase):
    def refused(self, refusal, fields, shares, hearers, teller):
        with self.assertRaises(refusal) as caught:
            joined(shares, hearers, teller)
        self.assertIsInstance(caught.exception, ValueError)
        found = {NoCase: lambda one: (one.part, one.number), NoHearers: lambda one: one.number}[refusal](caught.exception)
        self.assertEqual(found, fields)

    def test_all_counts(self):
        for counts in COUNTS:
            for worlds in range(1, 6):
                parts = drawn_parts(worlds, counts)
                before = copied(list(parts))
                case = joined(*parts)
                self.assertEqual(list(parts), before)
                shares, hearers, teller = parts
                self.assertIsInstance(case, Case)
                self.assertEqual((case.shares(), case.teller()), (shares, teller))
                sums = [[sum((worth(hearer[world][deed]) for hearer, deed in zip(hearers, deeds)), Fraction(0))
                         for deeds in lists_of(counts)] for world in range(worlds)]
                self.assertEqual([[worth(one) for one in row] for row in case.hearer()], sums)
                self.assertEqual(case.deeds(), len(deed_lists(counts)))

    def test_named_ones(self):
        one, two = [[(1, 1), (2, 1)], [(3, 1), (4, 1)]], [[(10, 1), (20, 1)], [(30, 1), (40, 1)]]
        teller = [[(0, 1), (1, 1), (2, 1), (3, 1)]] * 2
        case = joined(EVEN, [one, two], teller)
        self.assertEqual(case.hearer(), [[(11, 1), (21, 1), (12, 1), (22, 1)], [(33, 1), (43, 1), (34, 1), (44, 1)]])
        self.assertEqual(joined(teller=teller, hearers=[one, two], shares=EVEN), case)
        self.assertEqual(joined(EVEN, [one], one), Case(EVEN, one, one))

    def test_apart(self):
        shares, hearers, teller = drawn_parts(3, [2, 3])
        case = joined(shares, hearers, teller)
        before = repr(case)
        for told in (shares, hearers, teller, case.hearer()):
            spoil(told)
        self.assertEqual(repr(case), before)
        # One list may be handed in for several hearers.
        self.assertEqual(joined(EVEN, [LITTLE, LITTLE], [[(0, 1)] * 4] * 2),
                         joined(EVEN, [LITTLE, copied(LITTLE)], [[(0, 1)] * 4] * 2))

    def test_shares_ahead_of_all(self):
        for thing in no_lists() + [[], [(1, 6)] * 6]:
            self.refused(NoCase, ("shares", None), thing, None, None)
        self.refused(NoCase, ("shares", None), [(1, 2), (1, 3)], None, None)
        self.refused(NoCase, ("shares", 1), [(1, 2), (-1, 2), "x"], None, None)
        for thing in no_ratios():
            self.refused(NoCase, ("shares", 0), [thing, (1, 2)], [], [])

    def test_no_list_of_hearers(self):
        for thing in no_lists() + [[], [[[(0, 1)]] * 2] * 4, [None] * 4]:
            self.refused(NoHearers, None, EVEN, thing, None)

    def test_first_that_is_no_hearer(self):
        good = [[(0, 1)]] * 2
        wrong = no_lists() + no_ratios() + [
            [], [[(0, 1)]], [[(0, 1)]] * 3, [[], []], [[(0, 1)], []], [[(0, 1)], [(0, 1)] * 2], [[(0, 1)] * 2, [(0, 1)]],
            [[(0, 1)] * 7] * 2, [[(0, 1)], ((0, 1),)], [[(0, 1)], None], [(0, 1), (0, 1)]]
        wrong += [[[(0, 1)], [thing]] for thing in no_ratios()] + [[[thing], [(0, 1)]] for thing in no_ratios()]
        for thing in wrong:
            for many in range(1, 4):
                for number in range(many):
                    hearers = [good] * number + [thing] + [None] * (many - number - 1)
                    self.refused(NoHearers, number, EVEN, hearers, None)

    def test_deeds_that_multiply_to_more_than_six(self):
        for counts in ([2, 4], [3, 3], [6, 2], [2, 2, 2], [1, 6, 2], [6, 6, 6], [6, 1, 2]):
            shares, hearers, teller = drawn_parts(2, counts)
            self.refused(NoHearers, None, shares, hearers, teller)
            self.refused(NoHearers, None, shares, hearers, None)
            self.refused(NoHearers, len(counts) - 1, shares, hearers[:-1] + [None], None)

    def test_teller_behind_all(self):
        shares, hearers, teller = drawn_parts(2, [2, 3])
        for thing in no_lists() + [[], teller[:1], teller + teller]:
            self.refused(NoCase, ("teller", None), shares, hearers, thing)
        for world in range(2):
            for row in [None, [], teller[world][:5], teller[world] + [(0, 1)], tuple(teller[world]), [(0, 1)] * 2]:
                self.refused(NoCase, ("teller", world), shares, hearers, teller[:world] + [row] + [None] * (1 - world))
            for thing in no_ratios():
                self.refused(NoCase, ("teller", world), shares, hearers,
                             teller[:world] + [teller[world][:-1] + [thing]] + teller[world + 1:])


class DeedLists(unittest.TestCase):
    def test_all_counts(self):
        for counts in COUNTS:
            before = list(counts)
            told = deed_lists(counts)
            self.assertEqual(counts, before)
            self.assertEqual(told, lists_of(counts))
            self.assertTrue(all(isinstance(deeds, tuple) for deeds in told))
            spoil(told)
            self.assertEqual(deed_lists(counts=counts), lists_of(counts))
        self.assertEqual(deed_lists([2, 2]), [(0, 0), (0, 1), (1, 0), (1, 1)])

    def test_no_counts(self):
        for thing in no_lists() + wrong_counts():
            with self.assertRaises(NoCounts) as caught:
                deed_lists(thing)
            self.assertIsInstance(caught.exception, ValueError)


def wrong_counts():
    """Lists that are no numbers of deeds."""
    wrong = [[], [1] * 4, [0], [7], [-1], [-1, -1], [-2, -3], [2, 4], [6, 2], [2, 2, 2], [1, 1, 7], [0, 7], [1, 0], [10 ** 29]]
    return wrong + [[thing] for thing in no_wholes()] + [[1, 2, thing] for thing in no_wholes()]


class EachDoes(unittest.TestCase):
    def check(self, counts, worlds, kind, seed):
        shares, hearers, teller = drawn_parts(worlds, counts, kind, seed)
        case = joined(shares, hearers, teller)
        rule = drawn_rule(worlds, 4, seed)
        for word in range(len(rule)):
            weights = reckoned_masses(case, rule, word)
            if sum(weights) == 0:
                continue
            each = [reckoned_worths(hearer, weights) for hearer in hearers]
            finest = [[deed for deed, one in enumerate(worths) if one == max(worths)] for worths in each]
            lists = list(itertools.product(*finest))
            self.assertEqual(tuple(lists_of(counts).index(one) for one in lists), best(case, beliefs(case, rule, word)))
            gained = dict(zip(lists_of(counts), reckoned_worths(teller, weights)))
            self.assertEqual(each_does(case, counts, rule, word), list(max(lists, key=gained.get)))
            self.assertEqual(each_does(case, counts, rule, word, False), list(max(lists, key=gained.get)))
            told = each_does(case, counts, rule, word, True)
            self.assertEqual(told, list(min(lists, key=gained.get)))
            self.assertIsInstance(told, list)
            spoil(told)
            self.assertEqual(each_does(case, counts, rule, word, True), list(min(lists, key=gained.get)))

    def test_all_counts(self):
        for counts in COUNTS:
            for worlds in (1, 2, 3, 5):
                for kind in ("tied", "mixed", "alike"):
                    before = list(counts)
                    self.check(counts, worlds, kind, 0)
                    self.assertEqual(counts, before)

    def test_many_ties(self):
        for seed in range(40):
            for counts in ([2, 3], [3, 2], [2, 1, 3], [1, 6]):
                self.check(counts, 2, "tied", seed)

    def test_known_by_hand(self):
        # The first hearer wants the world's own deed, the second one does not care; the teller wants them apart.
        own, none = [[(1, 1), (0, 1)], [(0, 1), (1, 1)]], [[(0, 1), (0, 1)]] * 2
        case = joined(EVEN, [own, none], [[(0, 1), (1, 1), (1, 1), (0, 1)]] * 2)
        rule = read_rule("1 0 | 0 1")
        self.assertEqual([each_does(case, [2, 2], rule, word) for word in range(2)], [[0, 1], [1, 0]])
        self.assertEqual([each_does(case, [2, 2], rule, word, True) for word in range(2)], [[0, 0], [1, 1]])
        self.assertEqual(each_does(against=True, word=1, rule=rule, counts=[2, 2], case=case), [1, 1])
        self.assertEqual(gains(case, rule)[0], (1, 1))
        self.assertEqual(most(case)[0], (1, 1))

    def test_no_counts_ahead_of_all(self):
        case = joined(*drawn_parts(2, [2, 3]))
        for thing in no_lists() + wrong_counts() + [[1], [5], [2, 2], [3], [1, 4], [1, 1, 5], [1, 1, 1]]:
            for rule, word in ((drawn_rule(2, 2), 0), (drawn_rule(3, 2), -1)):
                with self.assertRaises(NoCounts):
                    each_does(case, thing, rule, word)
        for counts in ([6], [2, 3], [3, 2], [6, 1], [1, 1, 6], [1, 2, 3]):
            self.assertEqual(len(each_does(case, counts, read_rule("1 | 1"), 0)), len(counts))

    def test_unlike_then_no_word_then_unsaid(self):
        shares, hearers, teller = drawn_parts(2, [2, 3])
        case = joined([(1, 1), (0, 1)], hearers, teller)
        for word in (0, -1, 9, "x", None):
            with self.assertRaises(Unlike) as caught:
                each_does(case, [2, 3], drawn_rule(3, 2), word)
            self.assertEqual((caught.exception.one, caught.exception.other), (2, 3))
        rule = read_rule("1 0 0 | 0 0 1")
        for word in no_words(rule):
            with self.assertRaises(NoWord) as caught:
                each_does(case, [2, 3], rule, word)
            self.assertIs(caught.exception.word, word)
        for word in (1, 2):
            with self.assertRaises(Unsaid) as caught:
                each_does(case, [2, 3], rule, word)
            self.assertEqual(caught.exception.word, word)


if __name__ == "__main__":
    unittest.main()
