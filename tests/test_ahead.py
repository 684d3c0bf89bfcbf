"""Words heard ahead (points 20 and 21, and part d of point 3)."""

from fractions import Fraction
import unittest

from besttelling.ahead import ahead, lost, told_on
from besttelling.doing import gains
from besttelling.errors import TooMany, Unlike
from besttelling.hearing import beliefs, chance
from besttelling.mosts import most
from besttelling.rules import Rule
from besttelling.ruletexts import read_rule
from besttelling.telling import all_told, silence
from tests.things import drawn_case, drawn_rule, reckoned_gains, reckoned_masses, spoil, sure_shares, whole_case, worth

JUDGE = whole_case([(7, 10), (3, 10)], [[1, 0], [0, 1]], [[0, 1], [0, 1]])
# Each deed is the hearer's and the teller's best one in its own world: all is told by as many words as worlds.
SAME = whole_case([(1, 3), (1, 3), (1, 3)], [[1, 0, 0], [0, 1, 0], [0, 0, 1]], [[1, 0, 0], [0, 1, 0], [0, 0, 1]])


def some_pairs():
    """Cases and rules of as many worlds, words that are never said among them."""
    return [(drawn_case(worlds, deeds, kind, f"ahead {words}"), drawn_rule(worlds, words, deeds))
            for worlds in range(1, 6) for deeds in (1, 2, 4, 6) for words in (1, 2, 5) for kind in ("tied", "mixed")]


def said_words(case, rule):
    return [word for word in range(len(rule)) if sum(reckoned_masses(case, rule, word)) > 0]


class Ahead(unittest.TestCase):
    def check(self, case, rule):
        before = (repr(case), repr(rule))
        told = ahead(case, rule)
        self.assertIsInstance(told, tuple)
        gain, parts = told
        self.assertIsInstance(parts, list)
        self.assertEqual([part[0] for part in parts], said_words(case, rule))
        added = Fraction(0)
        for part in parts:
            self.assertIsInstance(part, tuple)
            word, much, behind = part
            here = case.with_shares(beliefs(case, rule, word))
            self.assertEqual(much, most(here)[0])
            self.assertIsInstance(behind, Rule)
            self.assertEqual(reckoned_gains(here, behind, False)[0], worth(much))
            self.assertLessEqual(len(behind), min(sum(1 for share in here.shares() if share != (0, 1)), case.deeds()))
            for number in range(len(behind)):
                self.assertGreater(worth(chance(here, behind, number)), 0)
            added += sum(reckoned_masses(case, rule, word)) * worth(much)
        self.assertEqual(worth(gain), added)
        self.assertLessEqual(added, worth(most(case)[0]))
        self.assertGreaterEqual(added, reckoned_gains(case, rule, False)[0])
        self.assertEqual(worth(lost(case, rule)), worth(most(case)[0]) - added)
        self.assertEqual((repr(case), repr(rule)), before)
        return told

    def test_cases_of_all_sizes(self):
        lower = 0
        for case, rule in some_pairs():
            gain, parts = self.check(case, rule)
            lower += worth(gain) < worth(most(case)[0])
        self.assertGreater(lower, 10)

    def test_behind_silence_and_behind_all(self):
        for case, rule in some_pairs():
            worlds = case.worlds()
            self.assertEqual(self.check(case, silence(worlds))[0], most(case)[0])
            self.assertEqual(lost(case, silence(worlds)), (0, 1))
            self.assertEqual(self.check(case, all_told(worlds))[0], gains(case, all_told(worlds))[0])

    def test_known_by_hand(self):
        gain, parts = ahead(JUDGE, all_told(2))
        self.assertEqual((gain, lost(JUDGE, all_told(2))), ((3, 10), (3, 10)))
        self.assertEqual(parts, [(0, (0, 1), silence(2)), (1, (1, 1), silence(2))])
        rule = read_rule("1/7 6/7 0 | 1 0 0")
        gain, parts = ahead(JUDGE, rule)
        self.assertEqual([(word, much) for word, much, behind in parts], [(0, (1, 1)), (1, (0, 1))])
        self.assertEqual((gain, lost(JUDGE, rule)), ((2, 5), (1, 5)))

    def test_by_name(self):
        rule = all_told(2)
        self.assertEqual(ahead(rule=rule, case=JUDGE), ahead(JUDGE, rule))
        self.assertEqual(lost(rule=rule, case=JUDGE), lost(JUDGE, rule))
        self.assertEqual(told_on(rule=rule, case=JUDGE), told_on(JUDGE, rule))

    def test_told_again_alike(self):
        for case, rule in some_pairs()[::7]:
            told = ahead(case, rule)
            before = repr(told)
            spoil(told[1])
            self.assertEqual(repr(ahead(case, rule)), before)

    def test_unlike(self):
        for worlds in range(1, 6):
            for other in range(1, 6):
                if worlds != other:
                    for tell in (ahead, lost, told_on):
                        for words in (2, 30):
                            with self.assertRaises(Unlike) as caught:
                                tell(drawn_case(worlds, 6), drawn_rule(other, words))
                            self.assertEqual((caught.exception.one, caught.exception.other), (worlds, other))


class ToldOn(unittest.TestCase):
    def check(self, case, rule):
        before = (repr(case), repr(rule))
        gain, parts = ahead(case, rule)
        told = told_on(case, rule)
        self.assertIsInstance(told, Rule)
        rows = []
        for world in range(case.worlds()):
            row = [worth(rule.rows()[world][word]) * worth(share)
                   for word, much, behind in parts for share in behind.rows()[world]]
            row[0] += 1 - sum(row)
            rows.append(row)
        self.assertEqual([[worth(share) for share in row] for row in told.rows()], rows)
        self.assertEqual(gains(case, told)[0], gain)
        self.assertEqual(reckoned_gains(case, told, False)[0], worth(gain))
        self.assertEqual((repr(case), repr(rule)), before)
        return told

    def test_cases_of_all_sizes(self):
        for case, rule in some_pairs():
            self.check(case, rule)

    def test_words_never_said_are_put_to_word_0(self):
        case = SAME.with_shares([(0, 1), (1, 2), (1, 2)])
        rule = read_rule("1/4 1/4 1/2 | 0 1 0 | 0 1/3 2/3")
        told = self.check(case, rule)
        # Behind word 1 two worlds are left, behind word 2 one; word 0 is said where the share is nought alone.
        self.assertEqual(len(told), 3)
        self.assertEqual(sum(worth(share) for share in told.rows()[0]), 1)
        self.assertGreaterEqual(worth(told.rows()[0][0]), Fraction(1, 4))
        lone = SAME.with_shares(sure_shares(3, 2))
        self.assertEqual(str(self.check(lone, all_told(3))), "1 | 1 | 1")
        self.assertEqual(str(self.check(lone, read_rule("1 0 | 0 1 | 1/3 2/3"))), "1 0 | 0 1 | 1/3 2/3")

    def test_known_by_hand(self):
        self.assertEqual(told_on(JUDGE, all_told(2)), all_told(2))
        self.assertEqual(gains(JUDGE, told_on(JUDGE, silence(2)))[0], (3, 5))

    def test_thirty_words_and_more(self):
        for words, many in ((10, 30), (11, 33), (15, 45), (30, 90)):
            rule = Rule([[(1, words)] * words] * 3)
            if many == 30:
                self.assertEqual(len(self.check(SAME, rule)), 30)
                continue
            with self.assertRaises(TooMany) as caught:
                told_on(SAME, rule)
            self.assertEqual(caught.exception.many, many)
            self.assertIsInstance(caught.exception, OverflowError)
        # Ten words with three worlds behind each, and one more that leaves one world: just one too many.
        rule = Rule([[(1, 10)] * 10 + [(0, 1)]] * 2 + [[(1, 11)] * 11])
        with self.assertRaises(TooMany) as caught:
            told_on(SAME, rule)
        self.assertEqual(caught.exception.many, 31)
        # Words that are never said do not count.
        self.assertEqual(len(self.check(SAME, Rule([[(1, 10)] * 10 + [(0, 1)] * 20] * 3))), 30)

    def test_told_again_alike(self):
        for case, rule in some_pairs()[::7]:
            told = told_on(case, rule)
            before = str(told)
            spoil(told.rows())
            self.assertEqual(str(told_on(case, rule)), before)


if __name__ == "__main__":
    unittest.main()
