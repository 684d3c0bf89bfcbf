"""Boards, on which a sum is made greatest; points 15 to 17 rest on them."""

from fractions import Fraction
from itertools import combinations
import random
import unittest

from besttelling.boards import Board


def solved(rows):
    """The one answer of as many equations, each with its right side last, as amounts; None where there is not one."""
    rows = [[Fraction(one) for one in row] for row in rows]
    for at in range(len(rows)):
        found = [row for row in rows[at:] if row[at] != 0]
        if not found:
            return None
        rows.remove(found[0])
        rows.insert(at, [one / found[0][at] for one in found[0]])
        for other in range(len(rows)):
            if other != at:
                part = rows[other][at]
                rows[other] = [one - part * two for one, two in zip(rows[other], rows[at])]
    return [row[-1] for row in rows]


def greatest_sum(bounds, goal):
    """The greatest sum over all corners of what keeps to the bounds, gone through one by one."""
    many = len(goal)
    walls = bounds + [[-1 if other == at else 0 for other in range(many)] + [0] for at in range(many)]
    corners = [solved(some) for some in combinations(walls, many)]
    kept = [corner for corner in corners if corner is not None and all(
        sum(one * two for one, two in zip(wall, corner)) <= wall[-1] for wall in walls)]
    return max(sum(one * two for one, two in zip(goal, corner)) for corner in kept)


def opened(bounds, goal):
    """A board of bounds upon amounts 0, 1 .. and a goal; the room left in the bounds is called by numbers from 100 on."""
    grid = bounds + [[-one for one in goal] + [0]]
    return Board(grid, [100 + at for at in range(len(bounds))], list(range(len(goal))))


class Boards(unittest.TestCase):
    def climbed(self, bounds, goal):
        board = opened(bounds, goal)
        board.climb()
        amounts = [Fraction(board.amount(name), board.scale) for name in range(len(goal))]
        prices = [Fraction(board.worth(100 + at), board.scale) for at in range(len(bounds))]
        gain = sum(one * two for one, two in zip(goal, amounts))
        self.assertEqual(Fraction(board.grid[-1][-1], board.scale), gain)
        self.assertGreaterEqual(min(amounts + prices), 0)
        for at, row in enumerate(bounds):
            left = row[-1] - sum(one * two for one, two in zip(row, amounts))
            self.assertGreaterEqual(left, 0)
            self.assertEqual(Fraction(board.amount(100 + at), board.scale), left)
        # Prices on the bounds that pay for every goal show that no sum is greater.
        for at, one in enumerate(goal):
            self.assertGreaterEqual(sum(price * row[at] for price, row in zip(prices, bounds)), one)
        self.assertEqual(sum(price * row[-1] for price, row in zip(prices, bounds)), gain)
        return gain

    def test_by_hand(self):
        self.assertEqual(self.climbed([[1, 1, 4], [1, 3, 6]], [1, 2]), 5)
        self.assertEqual(self.climbed([[2, 0, 3], [0, 3, 2]], [1, 1]), Fraction(13, 6))
        self.assertEqual(self.climbed([[1, 5]], [-1]), 0)

    def test_by_all_corners(self):
        dice = random.Random(1)
        for _ in range(60):
            many = dice.randint(1, 3)
            bounds = [[dice.randint(-3, 5) for _ in range(many)] + [dice.randint(0, 3)] for _ in range(3)]
            bounds.append([1] * many + [7])
            goal = [dice.randint(-3, 9) for _ in range(many)]
            self.assertEqual(self.climbed(bounds, goal), greatest_sum(bounds, goal))

    def test_comes_to_an_end_where_steps_do_not_rise(self):
        # By the steepest step this famous board comes round to itself again and again.
        bounds = [[1, -11, -5, 18, 0], [1, -3, -1, 2, 0], [1, 0, 0, 0, 1]]
        self.assertEqual(self.climbed(bounds, [10, -57, -9, -24]), 1)

    def test_what_is_handed_in_stays(self):
        grid, base, free = [[1, 1], [-1, 0]], [1], [0]
        Board(grid, base, free).climb()
        self.assertEqual((grid, base, free), ([[1, 1], [-1, 0]], [1], [0]))


if __name__ == "__main__":
    unittest.main()
