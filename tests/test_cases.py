"""What makes a case (point 6), what is told of it (point 7), and what holds of all (point 2)."""

import unittest

from besttelling.cases import Case
from besttelling.errors import NoCase
from besttelling.rules import Rule
from tests.things import Gruff, Sly, case_parts, lists_in, no_lists, no_ratios, spoil

HALF = (1, 2)
SIZES = [(worlds, deeds) for worlds in range(1, 6) for deeds in range(1, 7)]


class Refused(unittest.TestCase):
    def refused(self, part, number, shares, hearer, teller):
        with self.assertRaises(NoCase) as caught:
            Case(shares, hearer, teller)
        self.assertEqual((caught.exception.part, caught.exception.number), (part, number))
        self.assertNotIsInstance(caught.exception.number, bool)


class Good(unittest.TestCase):
    def test_what_is_told(self):
        for worlds, deeds in SIZES:
            for seed in range(3):
                case = Case(*case_parts(worlds, deeds, seed))
                shares, hearer, teller = case_parts(worlds, deeds, seed)
                self.assertEqual((case.worlds(), case.deeds(), len(case)), (worlds, deeds, worlds))
                self.assertEqual((case.shares(), case.hearer(), case.teller()), (shares, hearer, teller))
                self.assertEqual(str(case), f"{worlds} worlds, {deeds} deeds")
                self.assertEqual(repr(case), f"Case({shares}, {hearer}, {teller})")

    def test_by_name(self):
        shares, hearer, teller = case_parts(2, 3)
        case = Case(teller=teller, shares=shares, hearer=hearer)
        self.assertEqual(case, Case(shares, hearer, teller))
        self.assertEqual((case.hearer(), case.teller()), (hearer, teller))

    def test_named_ones(self):
        one = Case([(1, 1)], [[(-3, 4)]], [[(5, 1)]])
        self.assertEqual(str(one), "1 worlds, 1 deeds")
        self.assertEqual(repr(one), "Case([(1, 1)], [[(-3, 4)]], [[(5, 1)]])")
        many = (10 ** 30 - 1, 8)
        self.assertEqual(Case([(1, 1)], [[many]], [[many]]).hearer(), [[many]])

    def test_shares_of_nought_and_gains_below_nought(self):
        case = Case([(0, 1), (1, 1)], [[(-1, 2)], [(-5, 1)]], [[(-7, 3)], [(0, 1)]])
        self.assertEqual(case.shares(), [(0, 1), (1, 1)])
        self.assertEqual(case.teller(), [[(-7, 3)], [(0, 1)]])

    def test_methods_stand_in_the_class_itself(self):
        for name in ("worlds", "deeds", "shares", "hearer", "teller", "with_shares", "__len__", "__eq__", "__str__",
                     "__repr__"):
            self.assertIn(name, vars(Case))


class Shares(Refused):
    def test_no_list(self):
        for thing in no_lists():
            self.refused("shares", None, thing, [[HALF]], [[HALF]])

    def test_too_few_or_too_many(self):
        self.refused("shares", None, [], [], [])
        for many in (6, 7, 10):
            self.refused("shares", None, [(1, many)] * many, [[HALF]] * many, [[HALF]] * many)
            self.refused("shares", None, [None] * many, [[HALF]] * many, [[HALF]] * many)

    def test_first_that_is_no_share(self):
        for worlds in range(1, 6):
            _, hearer, teller = case_parts(worlds, 2)
            for number in range(worlds):
                for thing in no_ratios() + [(-1, 2), (-1, 1), (-7, 3)]:
                    shares = [(1, worlds)] * worlds
                    shares[number:] = [thing] * (worlds - number)
                    self.refused("shares", number, shares, hearer, teller)

    def test_not_together_one(self):
        for shares in ([(0, 1)], [HALF], [(3, 2)], [(2, 1)], [HALF, (1, 3)], [(1, 1), (1, 1)], [(1, 3), (1, 3), (1, 4)],
                       [(1, 5)] * 4, [(0, 1)] * 5, [(10 ** 29, 10 ** 29 + 1)]):
            _, hearer, teller = case_parts(len(shares), 1)
            self.refused("shares", None, shares, hearer, teller)

    def test_below_nought_though_together_one(self):
        self.refused("shares", 1, [(3, 2), (-1, 2)], [[HALF], [HALF]], [[HALF], [HALF]])


class Gains(Refused):
    def each_part(self, number, good, wrong):
        """Refuse wrong gains as hearer, whatever the teller is, and as teller behind a good hearer."""
        shares = [(1, len(good))] * len(good)
        self.refused("hearer", number, shares, wrong, good)
        self.refused("hearer", number, shares, wrong, None)
        self.refused("teller", number, shares, good, wrong)

    def test_no_list(self):
        for thing in no_lists():
            self.each_part(None, [[HALF], [HALF]], thing)

    def test_another_number_of_worlds(self):
        for worlds in range(1, 6):
            _, good, _ = case_parts(worlds, 2)
            for many in range(0, 8):
                if many != worlds:
                    self.each_part(None, good, [[HALF, HALF]] * many)
                    self.each_part(None, good, [None] * many)

    def test_first_world_whose_list_is_none(self):
        for worlds in range(1, 6):
            for number in range(worlds):
                for thing in no_lists():
                    _, good, wrong = case_parts(worlds, 2)
                    wrong[number:] = [thing] * (worlds - number)
                    self.each_part(number, good, wrong)

    def test_first_world_with_a_thing_that_is_no_fraction(self):
        for worlds in range(1, 6):
            for number in range(worlds):
                for thing in no_ratios():
                    for deed in range(2):
                        _, good, wrong = case_parts(worlds, 2)
                        wrong[number][deed] = thing
                        self.each_part(number, good, wrong)

    def test_another_number_of_deeds_than_the_first_world(self):
        for deeds in range(1, 7):
            for many in range(0, 9):
                for number in range(1, 4):
                    if many != deeds:
                        _, good, wrong = case_parts(4, deeds)
                        wrong[number] = [HALF] * many
                        self.each_part(number, good, wrong)

    def test_first_world_with_none_or_too_many_deeds(self):
        for many in (0, 7, 8, 30):
            self.each_part(0, [[HALF]] * 3, [[HALF] * many] * 3)
            self.each_part(0, [[HALF]] * 3, [[HALF] * many, [HALF], [HALF]])

    def test_teller_with_another_number_of_deeds_than_hearer(self):
        for deeds in range(1, 7):
            for many in range(1, 7):
                if many != deeds:
                    self.refused("teller", 0, [HALF, HALF], [[HALF] * deeds] * 2, [[HALF] * many] * 2)
        self.refused("teller", 1, [HALF, HALF], [[HALF] * 2] * 2, [[HALF] * 2, [HALF] * 3])

    def test_seven_deeds_of_both(self):
        self.refused("hearer", 0, [(1, 1)], [[HALF] * 7], [[HALF] * 7])


class SeveralFaults(Refused):
    def test_shares_then_hearer_then_teller(self):
        self.refused("shares", None, None, None, None)
        self.refused("shares", 0, [Gruff()], [], [])
        self.refused("shares", 1, [(1, 1), 1], [[HALF]], None)
        self.refused("shares", None, [HALF], Sly(), Sly())
        self.refused("hearer", None, [(1, 1)], Sly(), Sly())
        self.refused("hearer", 0, [(1, 1)], [Sly()], Sly())
        self.refused("hearer", 1, [HALF, HALF], [[HALF], [HALF, HALF]], [[HALF]])
        self.refused("teller", None, [(1, 1)], [[HALF]], Gruff())

    def test_first_within_a_part(self):
        self.refused("shares", 1, [(1, 3), (2, 6), (-1, 3), None], None, None)
        self.refused("hearer", 1, [(1, 3)] * 3, [[HALF], [(2, 4)], []], [])
        self.refused("teller", 0, [(1, 3)] * 3, [[HALF]] * 3, [[], None, 3])


class Apart(unittest.TestCase):
    def told(self, case):
        return [case.shares(), case.hearer(), case.teller()]

    def test_new_lists_every_time(self):
        case = Case(*case_parts(3, 2))
        told = [one for _ in range(2) for one in lists_in(self.told(case))]
        self.assertEqual(len({id(one) for one in told}), len(told))

    def test_what_is_told_and_changed_changes_nothing(self):
        case = Case(*case_parts(3, 2))
        before = self.told(case)
        spoil(self.told(case))
        self.assertEqual(self.told(case), before)
        self.assertEqual(case, Case(*case_parts(3, 2)))

    def test_what_is_handed_in_stays_and_is_not_kept(self):
        parts = list(case_parts(3, 2))
        case = Case(*parts)
        self.assertEqual(parts, list(case_parts(3, 2)))
        spoil(parts)
        self.assertEqual(self.told(case), list(case_parts(3, 2)))
        self.assertEqual(repr(case), repr(Case(*case_parts(3, 2))))
        self.assertEqual((case.worlds(), case.deeds(), len(case)), (3, 2, 3))

    def test_one_list_handed_in_several_times(self):
        row = [HALF, (1, 3)]
        case = Case([HALF, HALF], [row, row], [row, row])
        hearer = case.hearer()
        hearer[0].append("spoilt")
        self.assertEqual(hearer[1], [HALF, (1, 3)])
        self.assertEqual(case.hearer(), [[HALF, (1, 3)]] * 2)

    def test_what_is_refused_stays_as_it_was(self):
        shares, hearer, teller = case_parts(3, 2)
        teller[2] = [None]
        with self.assertRaises(NoCase):
            Case(shares, hearer, teller)
        self.assertEqual((shares, hearer), case_parts(3, 2)[:2])
        self.assertEqual(teller, case_parts(3, 2)[2][:2] + [[None]])


class Alike(unittest.TestCase):
    def test_alike_cases(self):
        for worlds, deeds in SIZES:
            one, other = Case(*case_parts(worlds, deeds)), Case(*case_parts(worlds, deeds))
            self.assertIs(one == other, True)
            self.assertIs(other == one, True)
            self.assertIs(one != other, False)

    def test_one_thing_otherwise(self):
        row = [HALF, HALF]
        one = Case(row, [row, row], [row, row])
        for other in (
            Case([(1, 3), (2, 3)], [row, row], [row, row]),
            Case(row, [row, [HALF, (1, 3)]], [row, row]),
            Case(row, [row, row], [row, [HALF, (1, 3)]]),
            Case(row, [row[:1]] * 2, [row[:1]] * 2),
            Case([(1, 1)], [row], [row]),
        ):
            self.assertIs(one == other, False)
            self.assertIs(other == one, False)
            self.assertIs(one != other, True)

    def test_hearer_and_teller_are_not_the_same(self):
        one, other = [[(1, 1)]], [[(2, 1)]]
        self.assertNotEqual(Case([(1, 1)], one, other), Case([(1, 1)], other, one))

    def test_like_nothing_else(self):
        parts = case_parts(1, 1)
        case = Case(*parts)
        for thing in no_lists() + [parts, list(parts), repr(case), str(case), Rule([[(1, 1)]])]:
            self.assertIs(case == thing, False)
            self.assertIs(case != thing, True)
            if not isinstance(thing, (Sly, Gruff)):
                self.assertIs(thing == case, False)


class WithShares(unittest.TestCase):
    def refused(self, case, number, shares):
        before = repr(case)
        with self.assertRaises(NoCase) as caught:
            case.with_shares(shares)
        self.assertEqual((caught.exception.part, caught.exception.number), ("shares", number))
        self.assertEqual(repr(case), before)

    def test_other_shares(self):
        for worlds, deeds in SIZES:
            shares, hearer, teller = case_parts(worlds, deeds)
            case = Case(shares, hearer, teller)
            others = [(0, 1)] * (worlds - 1) + [(1, 1)]
            for told in (case.with_shares(others), case.with_shares(shares=others)):
                self.assertIsInstance(told, Case)
                self.assertEqual(told, Case(others, hearer, teller))
                self.assertEqual(told.shares(), others)
            self.assertEqual(case, Case(shares, hearer, teller))

    def test_another_length_whatever_is_in_it(self):
        for worlds in range(1, 6):
            case = Case(*case_parts(worlds, 2))
            for many in range(0, 8):
                if many != worlds:
                    self.refused(case, None, [(1, max(many, 1))] * many)
                    self.refused(case, None, [None] * many)
                    self.refused(case, None, [(-1, 1)] * many)

    def test_no_list(self):
        for thing in no_lists():
            self.refused(Case(*case_parts(2, 2)), None, thing)

    def test_as_in_a_new_case_else(self):
        case = Case(*case_parts(3, 2))
        for number in range(3):
            for thing in no_ratios() + [(-1, 3)]:
                shares = [(1, 3)] * 3
                shares[number:] = [thing] * (3 - number)
                self.refused(case, number, shares)
        self.refused(case, None, [HALF, HALF, HALF])
        self.refused(case, None, [(0, 1)] * 3)

    def test_apart(self):
        case = Case(*case_parts(3, 2))
        shares = [(1, 3)] * 3
        told = case.with_shares(shares)
        self.assertEqual(shares, [(1, 3)] * 3)
        spoil(shares)
        spoil(told.shares())
        spoil(told.hearer())
        spoil(case.teller())
        self.assertEqual(told, case.with_shares([(1, 3)] * 3))
        self.assertEqual(case, Case(*case_parts(3, 2)))


if __name__ == "__main__":
    unittest.main()
