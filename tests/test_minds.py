"""Minds that hear word by word (point 28, and part h of point 3)."""

import random
import unittest

from besttelling.cases import Case
from besttelling.doing import deed_by
from besttelling.errors import Bare, NoNumber, NoWord, Unlike, Unsaid
from besttelling.hearing import beliefs, chance
from besttelling.minds import Mind
from besttelling.rules import Rule
from besttelling.ruletexts import read_rule
from besttelling.telling import all_told, beside, silence
from tests.things import (
    drawn_case, drawn_cases, drawn_rule, no_wholes, no_words, reckoned_deed, row_worths, spoil, whole_case, worth,
)

JUDGE = whole_case([(7, 10), (3, 10)], [[1, 0], [0, 1]], [[0, 1], [0, 1]])
HINT = read_rule("1/4 3/4 | 1/2 1/2")


def look(mind):
    """All that a mind tells."""
    return (mind.beliefs(), mind.heard(), len(mind), mind.deed(), mind.deed(True), mind.case())


def said_word(case, rule, dice):
    """A word that is said, drawn."""
    return dice.choice([word for word in range(len(rule)) if chance(case, rule, word) != (0, 1)])


class Hearing(unittest.TestCase):
    def test_new_mind(self):
        for case in drawn_cases():
            mind = Mind(case)
            self.assertEqual((mind.beliefs(), mind.heard(), len(mind), mind.case()), (case.shares(), 0, 0, case))
            self.assertEqual(Mind(case=case), mind)

    def test_known_by_hand(self):
        mind = Mind(JUDGE)
        self.assertEqual(mind.deed(), 0)
        self.assertIsNone(mind.hear(HINT, 0))
        self.assertEqual(mind.beliefs(), [(7, 13), (6, 13)])
        self.assertIsNone(mind.hear(rule=HINT, word=0))
        self.assertEqual((mind.beliefs(), mind.deed()), ([(7, 19), (12, 19)], 1))
        mind.hear(word=1, rule=HINT)
        self.assertEqual((mind.beliefs(), mind.heard(), len(mind)), ([(7, 15), (8, 15)], 3, 3))
        self.assertEqual(mind.case(), JUDGE)

    def test_word_by_word_as_all_at_once(self):
        for number, case in enumerate(drawn_cases(2)):
            dice = random.Random(number)
            rules = [drawn_rule(case.worlds(), words, f"{number} {words}") for words in (2, 3, 5)]
            mind = Mind(case)
            before = [repr(thing) for thing in [case] + rules]
            together, place = silence(case.worlds()), 0
            for heard, rule in enumerate(rules):
                word = said_word(case.with_shares(mind.beliefs()), rule, dice)
                together, place = beside(together, rule), place * len(rule) + word
                mind.hear(rule, word)
                self.assertEqual(mind.beliefs(), beliefs(case, together, place))
                self.assertEqual((mind.heard(), len(mind)), (heard + 1, heard + 1))
            self.assertEqual([repr(thing) for thing in [case] + rules], before)
            self.assertEqual(mind.case(), case)

    def test_order_of_words_does_not_matter(self):
        one, other = drawn_rule(3, 3, "one"), drawn_rule(3, 4, "other")
        case = drawn_case(3, 3, seed="order").with_shares([(1, 3)] * 3)
        for first in range(3):
            for second in range(4):
                if chance(case, beside(one, other), first * 4 + second) != (0, 1):
                    ahead, behind = Mind(case), Mind(case)
                    ahead.hear(one, first)
                    ahead.hear(other, second)
                    behind.hear(other, second)
                    behind.hear(one, first)
                    self.assertEqual(ahead, behind)

    def test_deed_for_and_against(self):
        apart = 0
        for number, case in enumerate(drawn_cases(2)):
            mind = Mind(case)
            for step in range(3):
                weights = row_worths(mind.beliefs())
                for against in (False, True):
                    self.assertEqual(mind.deed(against), reckoned_deed(case, weights, against))
                    self.assertEqual(mind.deed(against=against), deed_by(case, mind.beliefs(), against))
                self.assertEqual(mind.deed(), mind.deed(False))
                apart += mind.deed() != mind.deed(True)
                rule = drawn_rule(case.worlds(), 2, f"{number} {step}")
                mind.hear(rule, said_word(case.with_shares(mind.beliefs()), rule, random.Random(step)))
        self.assertGreater(apart, 10)
        self.assertEqual((Mind(JUDGE.with_shares([(1, 2), (1, 2)])).deed(), Mind(JUDGE).deed()), (1, 0))
        self.assertEqual(Mind(JUDGE.with_shares([(1, 2), (1, 2)])).deed(True), 0)

    def test_told_beliefs_are_the_askers_own(self):
        mind = Mind(JUDGE)
        for step in range(3):
            before = mind.beliefs()
            spoil(mind.beliefs())
            spoil(mind.case().shares())
            self.assertEqual(mind.beliefs(), before)
            mind.hear(HINT, 0)
        mind.forget(3)
        self.assertEqual(mind.beliefs(), JUDGE.shares())

    def test_what_was_handed_in_may_be_changed(self):
        shares, gains, rows = [(1, 2), (1, 2)], [[(1, 1), (0, 1)], [(0, 1), (1, 1)]], [[(1, 1), (0, 1)], [(1, 3), (2, 3)]]
        mind = Mind(Case(shares, gains, gains))
        mind.hear(Rule(rows), 0)
        before = look(mind)
        for told in (shares, gains, rows):
            spoil(told)
        self.assertEqual(look(mind), before)

    def test_many_words(self):
        mind = Mind(JUDGE.with_shares([(1, 2), (1, 2)]))
        for step in range(200):
            mind.hear(HINT, step % 2)
        self.assertEqual(mind.heard(), 200)
        self.assertEqual(mind.beliefs(), [(3 ** 100, 3 ** 100 + 4 ** 100), (4 ** 100, 3 ** 100 + 4 ** 100)])
        mind.forget(199)
        self.assertEqual(mind.beliefs(), [(1, 3), (2, 3)])


class Refused(unittest.TestCase):
    def refused(self, refusal, mind, rule, word):
        before = look(mind)
        with self.assertRaises(refusal) as caught:
            mind.hear(rule, word)
        self.assertEqual(look(mind), before)
        return caught.exception

    def minds(self):
        """A new mind, and one that heard something."""
        heard = Mind(JUDGE)
        heard.hear(HINT, 1)
        return [Mind(JUDGE), heard]

    def test_unlike_ahead_of_all(self):
        for mind in self.minds():
            for worlds in (1, 3, 4, 5):
                for word in (0, -1, 7, None, "0", True):
                    refusal = self.refused(Unlike, mind, all_told(worlds), word)
                    self.assertEqual((refusal.one, refusal.other), (2, worlds))

    def test_no_word(self):
        for mind in self.minds():
            for rule in (HINT, silence(2), read_rule("1 0 0 | 1 0 0")):
                for word in no_words(rule):
                    self.assertIs(self.refused(NoWord, mind, rule, word).word, word)

    def test_unsaid_by_the_beliefs_that_stand(self):
        rule = read_rule("1 0 0 | 0 1 0")
        mind = Mind(JUDGE)
        self.assertEqual(self.refused(Unsaid, mind, rule, 2).word, 2)
        mind.hear(rule, 1)
        self.assertEqual(mind.beliefs(), [(0, 1), (1, 1)])
        # By the case's shares word 0 is said, by these beliefs it is not.
        for word in (0, 2):
            refusal = self.refused(Unsaid, mind, rule, word)
            self.assertEqual(refusal.word, word)
            self.assertIsInstance(refusal, LookupError)
        self.refused(NoWord, mind, rule, -1)
        mind.forget()
        mind.hear(rule, 0)
        self.assertEqual(mind.beliefs(), [(1, 1), (0, 1)])


class Forgetting(unittest.TestCase):
    def trail(self, case, number, many):
        """A mind that heard so many words, and its looks ahead of each and behind the last."""
        mind = Mind(case)
        looks = [look(mind)]
        for step in range(many):
            rule = drawn_rule(case.worlds(), 3, f"{number} {step}")
            mind.hear(rule, said_word(case.with_shares(mind.beliefs()), rule, random.Random(step)))
            looks.append(look(mind))
        return mind, looks

    def test_one_by_one_and_several(self):
        for number, case in enumerate(drawn_cases()[::4]):
            mind, looks = self.trail(case, number, 5)
            for step in range(4, -1, -1):
                self.assertIsNone(mind.forget())
                self.assertEqual(look(mind), looks[step])
            for many in range(1, 6):
                mind, looks = self.trail(case, number, 5)
                self.assertIsNone(mind.forget(many))
                self.assertEqual(look(mind), looks[5 - many])
                mind, looks = self.trail(case, number, 5)
                mind.forget(many=many)
                self.assertEqual(look(mind), looks[5 - many])
                # It hears on from there.
                rule = silence(case.worlds())
                mind.hear(rule, 0)
                self.assertEqual((mind.beliefs(), mind.heard()), (looks[5 - many][0], 6 - many))

    def test_no_number(self):
        for many in (0, 3):
            mind, looks = self.trail(drawn_case(2, 2), 0, many)
            for thing in no_wholes() + [0, -1, -2, -(10 ** 29), (1, 1)]:
                with self.assertRaises(NoNumber) as caught:
                    mind.forget(thing)
                self.assertIs(caught.exception.number, thing)
                self.assertEqual(look(mind), looks[-1])

    def test_bare(self):
        for many in range(4):
            mind, looks = self.trail(drawn_case(3, 2), 1, many)
            for wished in (many + 1, many + 2, 10 ** 29):
                with self.assertRaises(Bare) as caught:
                    mind.forget(wished)
                self.assertEqual(caught.exception.many, wished)
                self.assertIsInstance(caught.exception, RuntimeError)
                self.assertEqual(look(mind), looks[-1])
        with self.assertRaises(Bare) as caught:
            Mind(JUDGE).forget()
        self.assertEqual(caught.exception.many, 1)


class Alike(unittest.TestCase):
    def alike(self, one, other, told):
        self.assertIs(one == other, told)
        self.assertIs(other == one, told)
        self.assertIs(one != other, not told)

    def test_by_cases_and_beliefs(self):
        same = Case(JUDGE.shares(), JUDGE.hearer(), JUDGE.teller())
        self.alike(Mind(JUDGE), Mind(same), True)
        one, other = Mind(JUDGE), Mind(same)
        one.hear(HINT, 0)
        self.alike(one, other, False)
        # However come to: silence changes no beliefs, nor does what is forgotten.
        other.hear(HINT, 1)
        other.forget()
        other.hear(silence(2), 0)
        other.hear(HINT, 0)
        self.alike(one, other, True)
        self.assertNotEqual(one.heard(), other.heard())
        one.forget()
        self.alike(one, Mind(JUDGE), True)

    def test_same_beliefs_of_other_cases(self):
        one, other = Mind(JUDGE.with_shares([(1, 2), (1, 2)])), Mind(JUDGE)
        for mind in (one, other):
            mind.hear(all_told(2), 1)
        self.assertEqual(one.beliefs(), other.beliefs())
        self.alike(one, other, False)
        turned = Mind(Case(JUDGE.shares(), JUDGE.teller(), JUDGE.hearer()))
        self.alike(Mind(JUDGE), turned, False)

    def test_nothing_else(self):
        mind = Mind(JUDGE)
        for thing in (JUDGE, HINT, None, 0, JUDGE.shares(), "", [], (), object(), Mind):
            self.alike(mind, thing, False)
        self.alike(mind, mind, True)

    def test_twin(self):
        for number, case in enumerate(drawn_cases()[::5]):
            mind = Mind(case)
            rule = drawn_rule(case.worlds(), 2, number)
            for step in range(3):
                mind.hear(rule, said_word(case.with_shares(mind.beliefs()), rule, random.Random(step)))
            twin = mind.twin()
            self.assertIsInstance(twin, Mind)
            self.assertIsNot(twin, mind)
            self.assertEqual(look(twin), look(mind))
            self.alike(twin, mind, True)
            before = look(mind)
            twin.forget(2)
            twin.hear(silence(case.worlds()), 0)
            self.assertEqual((look(mind), twin.heard()), (before, 2))
            after = look(twin)
            mind.forget(3)
            mind.hear(silence(case.worlds()), 0)
            self.assertEqual(look(twin), after)
            # It heard the same, so it forgets the same.
            twin.forget(2)
            mind.forget()
            self.assertEqual(look(twin), look(mind))
            self.assertEqual(look(twin), look(Mind(case)))

    def test_hearing_makes_no_worth_of_its_own(self):
        # Of each rule the hearer, word by word, gains no less by the deed done than by any other one.
        mind = Mind(JUDGE)
        mind.hear(HINT, 0)
        worths = [sum(worth(one) * worth(row[deed]) for one, row in zip(mind.beliefs(), JUDGE.hearer())) for deed in range(2)]
        self.assertEqual(worths[mind.deed()], max(worths))


if __name__ == "__main__":
    unittest.main()
