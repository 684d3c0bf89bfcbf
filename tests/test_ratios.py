"""Fractions (point 4), and what holds of all functions (point 2)."""

from fractions import Fraction
import itertools
import unittest

from besttelling.errors import ByNought, NoNumber
from besttelling.ratios import greatest, is_ratio, made, minus, over, plus, times, total, under, wholes
from tests.things import Gruff, no_ratios, no_wholes, ratio, some_ratios, worth

MANY = 10 ** 30 - 1
WHOLES = [0, 1, -1, 2, -2, 3, 4, 6, -6, 12, 35, -64, 10 ** 29, -(10 ** 29), MANY, -MANY, 3 ** 60, 2 ** 98]
FEW = [(0, 1), (1, 1), (-1, 1), (1, 2), (-1, 2), (2, 3), (-7, 4), (5, 1), (1, MANY), (-MANY, 2)]


def sample():
    return FEW + some_ratios(15, "few") + some_ratios(10, "many", 30)


class IsRatio(unittest.TestCase):
    def test_fractions_are(self):
        for one in sample():
            self.assertIs(is_ratio(one), True, one)

    def test_nothing_else_is(self):
        for thing in no_ratios():
            self.assertIs(is_ratio(thing), False)

    def test_by_the_oracle(self):
        for top, bottom in itertools.product(range(-13, 14), repeat=2):
            right = bottom > 0 and ratio(Fraction(top, bottom)) == (top, bottom)
            self.assertIs(is_ratio((top, bottom)), right, (top, bottom))

    def test_by_name(self):
        self.assertIs(is_ratio(thing=(1, 2)), True)
        self.assertIs(is_ratio(thing=[1, 2]), False)


class Made(unittest.TestCase):
    def test_by_the_oracle(self):
        for top, bottom in itertools.product(WHOLES, WHOLES):
            if bottom != 0:
                told = made(top, bottom)
                self.assertEqual(told, ratio(Fraction(top, bottom)))
                self.assertIs(is_ratio(told), True)

    def test_named_ones(self):
        self.assertEqual(made(6, -4), (-3, 2))
        self.assertEqual(made(-6, -4), (3, 2))
        self.assertEqual(made(0, -7), (0, 1))
        self.assertEqual(made(10 ** 29, 10 ** 28), (10, 1))

    def test_bottom_left_out(self):
        for top in WHOLES:
            self.assertEqual(made(top), (top, 1))

    def test_by_name(self):
        self.assertEqual(made(top=4, bottom=6), (2, 3))
        self.assertEqual(made(bottom=6, top=4), (2, 3))
        self.assertEqual(made(4, bottom=-6), (-2, 3))
        self.assertEqual(made(top=4), (4, 1))

    def test_first_that_is_no_whole_number_is_refused(self):
        for thing in no_wholes():
            for call in (lambda: made(thing), lambda: made(thing, 2), lambda: made(2, thing), lambda: made(thing, 0),
                         lambda: made(0, thing), lambda: made(thing, Gruff()), lambda: made(bottom=thing, top=1)):
                with self.assertRaises(NoNumber) as caught:
                    call()
                self.assertIs(caught.exception.number, thing)

    def test_by_nought(self):
        for top in WHOLES:
            with self.assertRaises(ByNought):
                made(top, 0)
        with self.assertRaises(ByNought):
            made(bottom=0, top=3)


class Sums(unittest.TestCase):
    def test_by_the_oracle(self):
        for one, other in itertools.product(sample(), repeat=2):
            self.assertEqual(plus(one, other), ratio(worth(one) + worth(other)))
            self.assertEqual(minus(one, other), ratio(worth(one) - worth(other)))
            self.assertEqual(times(one, other), ratio(worth(one) * worth(other)))
            self.assertIs(under(one, other), worth(one) < worth(other))
            if other != (0, 1):
                self.assertEqual(over(one, other), ratio(worth(one) / worth(other)))

    def test_all_told_are_fractions(self):
        for one, other in itertools.product(FEW, repeat=2):
            told = [plus(one, other), minus(one, other), times(one, other), total([one, other, one])]
            if other != (0, 1):
                told.append(over(one, other))
            for fraction in told:
                self.assertIs(is_ratio(fraction), True)

    def test_named_ones(self):
        self.assertEqual(plus((1, 6), (1, 3)), (1, 2))
        self.assertEqual(minus((1, 2), (1, 2)), (0, 1))
        self.assertEqual(times((2, 3), (3, 2)), (1, 1))
        self.assertEqual(over((1, 2), (-3, 4)), (-2, 3))
        self.assertEqual(over((0, 1), (-3, 4)), (0, 1))
        self.assertIs(under((1, 2), (1, 2)), False)
        self.assertIs(under((-1, 2), (-1, 3)), True)

    def test_over_nought(self):
        for one in sample():
            with self.assertRaises(ByNought):
                over(one, (0, 1))

    def test_by_name(self):
        self.assertEqual(plus(other=(1, 2), one=(1, 3)), (5, 6))
        self.assertEqual(minus(other=(1, 2), one=(1, 3)), (-1, 6))
        self.assertEqual(times(other=(1, 2), one=(1, 3)), (1, 6))
        self.assertEqual(over(other=(1, 2), one=(1, 3)), (2, 3))
        self.assertIs(under(other=(1, 2), one=(1, 3)), True)
        with self.assertRaises(ByNought):
            over(other=(0, 1), one=(1, 3))


class Total(unittest.TestCase):
    def test_by_the_oracle(self):
        ratios = sample()
        for many in range(len(ratios) + 1):
            some = ratios[:many]
            whole = sum([worth(one) for one in some], Fraction(0))
            self.assertEqual(total(some), ratio(whole))
            self.assertEqual(total(some, None), ratio(whole))
            self.assertEqual(total(some, (-5, 7)), ratio(whole - Fraction(5, 7)))
            self.assertEqual(total(some, (0, 1)), ratio(whole))

    def test_empty_list(self):
        self.assertEqual(total([]), (0, 1))
        self.assertEqual(total([], None), (0, 1))
        self.assertEqual(total([], (3, 4)), (3, 4))

    def test_by_name(self):
        self.assertEqual(total(some=[(1, 2)]), (1, 2))
        self.assertEqual(total(some=[(1, 2)], start=None), (1, 2))
        self.assertEqual(total(start=(1, 4), some=[(1, 2)]), (3, 4))
        self.assertEqual(total([], start=(1, 4)), (1, 4))

    def test_what_is_handed_in_stays(self):
        some = [(1, 2), (-1, 3)]
        for _ in range(2):
            self.assertEqual(total(some, (1, 6)), (1, 3))
            self.assertEqual(some, [(1, 2), (-1, 3)])


class Lists(unittest.TestCase):
    def test_greatest(self):
        for many in (1, 2, 5, 30):
            some = some_ratios(many, f"greatest {many}")
            self.assertEqual(greatest(some), ratio(max(worth(one) for one in some)))
        self.assertEqual(greatest([(-1, 2), (-1, 3), (-2, 3)]), (-1, 3))

    def test_wholes(self):
        self.assertEqual(wholes([(1, 2), (-1, 3), (0, 1)]), ([3, -2, 0], (6, 1)))
        self.assertEqual(wholes([(4, 3), (2, 1)]), ([2, 3], (3, 2)))
        self.assertEqual(wholes([(-4, 1)]), ([-1], (1, 4)))
        self.assertEqual([wholes([]), wholes([(0, 1), (0, 1)])], [([], (1, 1)), ([0, 0], (1, 1))])
        for many in (1, 2, 5, 9):
            some = some_ratios(many, f"wholes {many}")
            told, by = wholes(some)
            self.assertEqual([worth(one) * worth(by) for one in some], told)


if __name__ == "__main__":
    unittest.main()
