"""Worths, best deeds, the deed done (point 11); what is done and gained by a rule (point 12)."""

from fractions import Fraction
import random
import unittest

from besttelling.cases import Case
from besttelling.doing import best, deed_by, deeds_done, gains, worths
from besttelling.errors import NoBeliefs, NoDeed, Unlike
from besttelling.hearing import beliefs, chance
from besttelling.ruletexts import read_rule
from besttelling.telling import all_told, silence
from tests.things import (
    Gruff, drawn_case, drawn_cases, drawn_rule, no_lists, no_ratios, no_wholes, ratio, reckoned_deed, reckoned_gains,
    reckoned_masses, reckoned_worths, row_worths, share_row, worth,
)


def whole_rows(rows):
    return [[(one, 1) for one in row] for row in rows]


# By even beliefs deeds 1, 2, 3 and 4 tie for the hearer; to the teller these are worth 1, 2, 2 and 1.
TIED = Case([(1, 2), (1, 2)],
            whole_rows([[0, 2, 1, 0, 2], [1, 0, 1, 2, 0]]),
            whole_rows([[9, 1, 4, 0, 0], [9, 1, 0, 4, 2]]))
EVEN = [(1, 2), (1, 2)]


def no_beliefs(worlds):
    """Things that are no beliefs for so many worlds."""
    things = no_lists() + [[], [(1, 1)] + [(0, 1)] * worlds, [(0, 1)] * worlds, [(1, 1)] * (worlds + 1)]
    things += [[(1, 1)] + [(0, 1)] * (worlds - 2)] if worlds > 1 else []
    things += [[(1, 1)] * worlds] if worlds > 1 else [[(1, 2)], [(2, 1)], [(-1, 1)]]
    things += [[(1, 1)] * (worlds - 1) + [thing] for thing in no_ratios()]
    things += [[thing] + [(0, 1)] * (worlds - 1) for thing in no_ratios()]
    if worlds > 1:
        things += [[(3, 2), (-1, 2)] + [(0, 1)] * (worlds - 2), [(-1, 1), (2, 1)] + [(0, 1)] * (worlds - 2)]
    return things


def no_deeds(case):
    """Things that are no deeds of a case."""
    return no_wholes() + [-1, -case.deeds(), case.deeds(), case.deeds() + 1, 10 ** 29, -(10 ** 29), [0], (0,)]


def believed(case, seed):
    return share_row(case.worlds(), random.Random(f"{case!r} {seed}"), 2)


class ByBeliefs(unittest.TestCase):
    def test_named_ones(self):
        self.assertEqual(worths(TIED, EVEN, 0), ((1, 2), (9, 1)))
        self.assertEqual(worths(TIED, EVEN, 4), ((1, 1), (1, 1)))
        self.assertEqual(worths(TIED, [(1, 3), (2, 3)], 3), ((4, 3), (8, 3)))
        self.assertEqual(best(TIED, EVEN), (1, 2, 3, 4))
        self.assertEqual(best(TIED, [(1, 1), (0, 1)]), (1, 4))
        self.assertEqual(best(TIED, [(1, 3), (2, 3)]), (3,))
        self.assertEqual([deed_by(TIED, EVEN), deed_by(TIED, EVEN, True)], [2, 1])
        self.assertEqual([deed_by(TIED, [(1, 1), (0, 1)]), deed_by(TIED, [(1, 1), (0, 1)], True)], [1, 4])

    def test_against_left_out_and_handed_in(self):
        self.assertEqual([deed_by(TIED, EVEN), deed_by(TIED, EVEN, False), deed_by(TIED, EVEN, against=False)], [2] * 3)
        self.assertEqual([deed_by(TIED, EVEN, True), deed_by(TIED, EVEN, against=True)], [1, 1])

    def test_by_name(self):
        self.assertEqual(worths(deed=1, beliefs=EVEN, case=TIED), ((1, 1), (1, 1)))
        self.assertEqual(best(beliefs=EVEN, case=TIED), (1, 2, 3, 4))
        self.assertEqual(deed_by(against=True, beliefs=EVEN, case=TIED), 1)

    def test_by_the_oracle(self):
        tied = 0
        for case in drawn_cases():
            for seed in range(3):
                told = believed(case, seed)
                hearer = reckoned_worths(case.hearer(), row_worths(told))
                teller = reckoned_worths(case.teller(), row_worths(told))
                for deed in range(case.deeds()):
                    pair = worths(case, told, deed)
                    self.assertIsInstance(pair, tuple)
                    self.assertEqual(pair, (ratio(hearer[deed]), ratio(teller[deed])))
                bests = tuple(deed for deed in range(case.deeds()) if hearer[deed] == max(hearer))
                self.assertEqual(best(case, told), bests)
                self.assertIsInstance(best(case, told), tuple)
                for against, pick in ((False, max), (True, min)):
                    deed = deed_by(case, told, against)
                    gained = [teller[one] for one in bests]
                    self.assertEqual(deed, bests[gained.index(pick(gained))])
                    self.assertIs(type(deed), int)
                tied += deed_by(case, told) != deed_by(case, told, True)
        self.assertGreater(tied, 10)

    def test_no_beliefs_ahead_of_no_deed(self):
        for worlds in range(1, 6):
            case = drawn_case(worlds, 3)
            for thing in no_beliefs(worlds):
                for ask in (lambda: best(case, thing), lambda: deed_by(case, thing), lambda: deed_by(case, thing, True),
                            lambda: worths(case, thing, 0), lambda: worths(case, thing, 3),
                            lambda: worths(case, thing, None), lambda: worths(case, thing, Gruff())):
                    with self.assertRaises(NoBeliefs) as caught:
                        ask()
                    self.assertIsInstance(caught.exception, ValueError)
                    self.assertNotIsInstance(caught.exception, (LookupError, ArithmeticError, RuntimeError))

    def test_no_deed(self):
        for deeds in range(1, 7):
            case = drawn_case(2, deeds)
            for thing in no_deeds(case):
                with self.assertRaises(NoDeed) as caught:
                    worths(case, EVEN, thing)
                self.assertIs(caught.exception.number, thing)
                self.assertIsInstance(caught.exception, IndexError)
                self.assertNotIsInstance(caught.exception, (ValueError, KeyError, ArithmeticError, RuntimeError))

    def test_what_is_handed_in_stays(self):
        handed, before = list(EVEN), repr(TIED)
        for _ in range(2):
            best(TIED, handed)
            deed_by(TIED, handed, True)
            worths(TIED, handed, 1)
            self.assertRaises(NoDeed, worths, TIED, handed, 5)
        self.assertEqual((handed, repr(TIED)), (EVEN, before))


class ByRule(unittest.TestCase):
    def test_named_ones(self):
        rule = read_rule("1/2 0 1/2 | 1/2 0 1/2")
        self.assertEqual(deeds_done(TIED, rule), [2, None, 2])
        self.assertEqual(deeds_done(TIED, rule, True), [1, None, 1])
        self.assertEqual(gains(TIED, rule), ((2, 1), (1, 1)))
        self.assertEqual(gains(TIED, rule, True), ((1, 1), (1, 1)))
        self.assertEqual(deeds_done(TIED, all_told(2)), [1, 3])
        self.assertEqual(deeds_done(TIED, all_told(2), True), [4, 3])
        self.assertEqual(gains(TIED, all_told(2)), ((5, 2), (2, 1)))
        self.assertEqual(gains(TIED, all_told(2), True), ((2, 1), (2, 1)))

    def test_against_left_out_and_handed_in(self):
        for ask, told in ((deeds_done, [[2], [1]]), (gains, [((2, 1), (1, 1)), ((1, 1), (1, 1))])):
            self.assertEqual([ask(TIED, silence(2)), ask(TIED, silence(2), False)], [told[0]] * 2)
            self.assertEqual(ask(against=False, rule=silence(2), case=TIED), told[0])
            self.assertEqual([ask(TIED, silence(2), True), ask(TIED, silence(2), against=True)], [told[1]] * 2)

    def test_by_the_oracle(self):
        nones = differing = 0
        for number, case in enumerate(drawn_cases()):
            for words in (1, 2, 5):
                rule = drawn_rule(case.worlds(), words, number)
                for against in (False, True):
                    done = deeds_done(case, rule, against)
                    self.assertIsInstance(done, list)
                    self.assertEqual(len(done), words)
                    for word, deed in enumerate(done):
                        weights = reckoned_masses(case, rule, word)
                        self.assertEqual(deed, reckoned_deed(case, weights, against) if sum(weights) else None)
                        nones += deed is None
                    told = gains(case, rule, against)
                    self.assertIsInstance(told, tuple)
                    self.assertEqual(told, tuple(ratio(gain) for gain in reckoned_gains(case, rule, against)))
                differing += gains(case, rule) != gains(case, rule, True)
        self.assertGreater(nones, 20)
        self.assertGreater(differing, 10)

    def test_gains_are_chances_times_worths(self):
        for case in drawn_cases():
            rule = drawn_rule(case.worlds(), 3, 5)
            for against in (False, True):
                sums = [Fraction(0), Fraction(0)]
                for word, deed in enumerate(deeds_done(case, rule, against)):
                    if deed is not None:
                        hearer, teller = worths(case, beliefs(case, rule, word), deed)
                        sums[0] += worth(chance(case, rule, word)) * worth(teller)
                        sums[1] += worth(chance(case, rule, word)) * worth(hearer)
                        self.assertEqual(deed, deed_by(case, beliefs(case, rule, word), against))
                self.assertEqual(gains(case, rule, against), (ratio(sums[0]), ratio(sums[1])))

    def test_bounds_of_gains(self):
        for number, case in enumerate(drawn_cases()):
            least, greatest = [worth(gains(case, make(case.worlds()))[1]) for make in (silence, all_told)]
            for words in (1, 2, 4, 9):
                rule = drawn_rule(case.worlds(), words, number)
                well, ill = [row_worths(gains(case, rule, against)) for against in (False, True)]
                self.assertEqual(well[1], ill[1])
                self.assertLessEqual(least, well[1])
                self.assertLessEqual(well[1], greatest)
                self.assertLessEqual(ill[0], well[0])

    def test_unlike(self):
        for worlds in range(1, 6):
            for others in range(1, 6):
                if worlds != others:
                    for ask in (deeds_done, gains):
                        for against in (False, True):
                            with self.assertRaises(Unlike) as caught:
                                ask(drawn_case(worlds, 2), drawn_rule(others, 2), against)
                            self.assertEqual((caught.exception.one, caught.exception.other), (worlds, others))

    def test_told_lists_are_the_askers_own(self):
        rule = read_rule("1/2 0 1/2 | 1/2 0 1/2")
        before = repr(TIED), repr(rule)
        told = deeds_done(TIED, rule)
        told.append(7)
        told[0] = 7
        self.assertEqual(deeds_done(TIED, rule), [2, None, 2])
        self.assertEqual((repr(TIED), repr(rule)), before)


if __name__ == "__main__":
    unittest.main()
