"""Words made advice (point 13); where advice falls short, and whether it is followed (point 14)."""

import unittest

from besttelling.advice import advised, faults, is_followed
from besttelling.cases import Case
from besttelling.doing import deeds_done, gains
from besttelling.errors import NoAdvice, Unlike
from besttelling.ruletexts import read_rule
from besttelling.telling import silence
from tests.things import (
    drawn_case, drawn_cases, drawn_rule, ratio, reckoned_deed, reckoned_masses, reckoned_worths, row_worths, worth,
)

# By even beliefs the two deeds tie for the hearer; the teller gains by deed 1 alone.
CASE = Case([(1, 2), (1, 2), (0, 1)],
            [[(1, 1), (0, 1)], [(0, 1), (1, 1)], [(0, 1), (5, 1)]],
            [[(0, 1), (1, 1)], [(0, 1), (1, 1)], [(0, 1), (1, 1)]])


def cases_and_rules():
    """Cases of all sizes, with rules of few and many words."""
    return [(case, drawn_rule(case.worlds(), words, number))
            for number, case in enumerate(drawn_cases()) for words in (1, 3, 8)]


def reckoned_advised(case, rule, against):
    """The rows of the rule's words made advice."""
    rows = [[0] * case.deeds() for _ in range(case.worlds())]
    for word in range(len(rule)):
        weights = reckoned_masses(case, rule, word)
        deed = reckoned_deed(case, weights, against) if sum(weights) else 0
        for world, row in enumerate(rule.rows()):
            rows[world][deed] += worth(row[word])
    return [[ratio(one) for one in row] for row in rows]


def reckoned_faults(case, rule):
    """All (d, e, much) of a rule that is advice."""
    told = []
    for deed in range(case.deeds()):
        hearer = reckoned_worths(case.hearer(), reckoned_masses(case, rule, deed))
        for other in range(case.deeds()):
            if hearer[other] > hearer[deed]:
                told.append((deed, other, ratio(hearer[other] - hearer[deed])))
    return told


def often_done(case, rule, world, against):
    """How often each deed is done in a world."""
    often = [0] * case.deeds()
    for word, deed in enumerate(deeds_done(case, rule, against)):
        if deed is not None:
            often[deed] += worth(rule.rows()[world][word])
    return often


class Advised(unittest.TestCase):
    def test_named_ones(self):
        rule = read_rule("1/2 1/2 0 | 1/2 0 1/2 | 0 0 1")
        self.assertEqual(str(advised(CASE, rule)), "1/2 1/2 | 0 1 | 0 1")
        self.assertEqual(str(advised(CASE, rule, True)), "1 0 | 1/2 1/2 | 0 1")
        unsaid = read_rule("1/2 1/2 0 0 | 1/2 1/2 0 0 | 0 0 1/3 2/3")
        self.assertEqual(str(advised(CASE, unsaid)), "0 1 | 0 1 | 1 0")
        self.assertEqual(str(advised(CASE, unsaid, True)), "1 0 | 1 0 | 1 0")

    def test_against_left_out_and_handed_in(self):
        well, ill = "0 1 | 0 1 | 0 1", "1 0 | 1 0 | 1 0"
        self.assertEqual([str(advised(CASE, silence(3))), str(advised(CASE, silence(3), False))], [well, well])
        self.assertEqual(str(advised(against=False, rule=silence(3), case=CASE)), well)
        self.assertEqual([str(advised(CASE, silence(3), True)), str(advised(CASE, silence(3), against=True))], [ill, ill])

    def test_by_the_oracle(self):
        for case, rule in cases_and_rules():
            for against in (False, True):
                told = advised(case, rule, against)
                self.assertEqual((len(told), told.worlds()), (case.deeds(), case.worlds()))
                self.assertEqual(told.rows(), reckoned_advised(case, rule, against))

    def test_the_same_is_done_and_gained(self):
        for case, rule in cases_and_rules():
            for against in (False, True):
                told = advised(case, rule, against)
                self.assertIs(is_followed(case, told), True)
                self.assertEqual(faults(case, told), [])
                self.assertEqual(gains(case, told, against), gains(case, rule, against))
                self.assertEqual(advised(case, told, against), told)
                for deed, done in enumerate(deeds_done(case, told, against)):
                    self.assertIn(done, (deed, None))
                for world, share in enumerate(case.shares()):
                    if share != (0, 1):
                        was = often_done(case, rule, world, against)
                        self.assertEqual(often_done(case, told, world, against), was)
                        self.assertEqual(row_worths(told.rows()[world]), was)

    def test_unlike(self):
        for worlds in range(1, 6):
            for others in range(1, 6):
                if worlds != others:
                    with self.assertRaises(Unlike) as caught:
                        advised(drawn_case(worlds, 2), drawn_rule(others, 2))
                    self.assertEqual((caught.exception.one, caught.exception.other), (worlds, others))

    def test_case_and_rule_stay(self):
        for case, rule in cases_and_rules()[::20]:
            before = repr(case), repr(rule)
            advised(case, rule).rows().clear()
            self.assertEqual(advised(case, rule), advised(case, rule))
            self.assertEqual((repr(case), repr(rule)), before)


class Faults(unittest.TestCase):
    def test_named_ones(self):
        self.assertEqual(faults(CASE, read_rule("1 0 | 0 1 | 1 0")), [])
        self.assertEqual(faults(CASE, read_rule("0 1 | 1 0 | 1 0")), [(0, 1, (1, 2)), (1, 0, (1, 2))])
        self.assertEqual(faults(CASE, read_rule("0 1 | 1/3 2/3 | 0 1")), [(0, 1, (1, 6)), (1, 0, (1, 6))])
        self.assertEqual(faults(CASE, read_rule("1/2 1/2 | 1/2 1/2 | 1 0")), [])
        self.assertEqual(faults(CASE, read_rule("1/2 1/2 | 1/3 2/3 | 1 0")), [])
        self.assertEqual(faults(CASE, read_rule("1/2 1/2 | 2/3 1/3 | 1 0")), [(0, 1, (1, 12)), (1, 0, (1, 12))])
        self.assertEqual(faults(rule=read_rule("0 1 | 0 1 | 0 1"), case=CASE), [])

    def test_by_the_oracle(self):
        followed = 0
        for number, case in enumerate(drawn_cases(3)):
            rule = drawn_rule(case.worlds(), case.deeds(), number)
            told = faults(case, rule)
            self.assertIsInstance(told, list)
            self.assertEqual(told, reckoned_faults(case, rule))
            self.assertEqual(told, sorted(told))
            for fault in told:
                self.assertIsInstance(fault, tuple)
            self.assertIs(is_followed(case, rule), told == [])
            followed += told == []
        self.assertGreater(followed, 50)
        self.assertGreater(len(drawn_cases(3)) - followed, 50)

    def test_followed_advice_gains_with_ties_for_no_less_than_as_advised(self):
        for number, case in enumerate(drawn_cases(3)):
            rule = drawn_rule(case.worlds(), case.deeds(), number)
            if is_followed(rule=rule, case=case):
                gain = sum(reckoned_worths(case.teller(), reckoned_masses(case, rule, deed))[deed]
                           for deed in range(case.deeds()))
                self.assertGreaterEqual(worth(gains(case, rule)[0]), gain)

    def test_unlike_ahead_of_no_advice(self):
        for worlds in range(1, 6):
            for others in range(1, 6):
                for words in (1, 2, 3, 30):
                    for ask in (faults, is_followed):
                        if worlds != others:
                            with self.assertRaises(Unlike) as caught:
                                ask(drawn_case(worlds, 2), drawn_rule(others, words))
                            self.assertEqual((caught.exception.one, caught.exception.other), (worlds, others))
                        elif words != 2:
                            with self.assertRaises(NoAdvice) as caught:
                                ask(drawn_case(worlds, 2), drawn_rule(others, words))
                            self.assertEqual(caught.exception.words, words)
                            self.assertIsInstance(caught.exception, ValueError)

    def test_told_lists_are_the_askers_own(self):
        rule = read_rule("0 1 | 1 0 | 1 0")
        told = faults(CASE, rule)
        told.append(None)
        told[0] = None
        self.assertEqual(faults(CASE, rule), [(0, 1, (1, 2)), (1, 0, (1, 2))])
        self.assertEqual(str(rule), "0 1 | 1 0 | 1 0")


if __name__ == "__main__":
    unittest.main()
