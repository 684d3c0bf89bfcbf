"""Roofs: the most on a whole way of shares, and what silence is worth below it.

The most, part by part, nowhere bends upwards. The prices that show it at one part bound it at all parts: their bound
is a straight line above the roof that lies on it at that part.
"""

from besttelling.doing import gains
from besttelling.errors import NoPart, NoShares
from besttelling.fewwords import said_only
from besttelling.mosts import live_worlds, most
from besttelling.prices import bound
from besttelling.ratios import is_ratio, minus, over, plus, times, under
from besttelling.rows import is_share_row
from besttelling.telling import silence


class Mark:
    """A part of a way, the most there with its rule, and the ends of a straight line above the roof that touches it."""

    def __init__(self, case, one, other, part):
        now = case.with_shares(mixed(one, other, part))
        gain, advice, prices = most(now)
        self.place = part
        self.height = gain
        self.rule = said_only(advice, live_worlds(now))
        self.begin = bound(case, prices, one)
        self.end = bound(case, prices, other)


def roof(case, one, other):
    """The corners (part, gain, rule) of the most on the way from one list of shares to another one."""
    for shares in (one, other):
        if not is_share_row(shares, case.worlds(), case.worlds()):
            raise NoShares()
    marks = [Mark(case, one, other, (0, 1))]
    if one != other:
        last = Mark(case, one, other, (1, 1))
        marks = bent(marks + marks_between(case, one, other, marks[0], last) + [last])
    return [(mark.place, mark.height, mark.rule) for mark in marks]


def roof_at(corners, part):
    """What lies at a part on the straight lines between corners."""
    if not is_part(part):
        raise NoPart(part)
    if len(corners) == 1:
        return corners[0][1]
    number = 1
    while under(corners[number][0], part):
        number += 1
    low, high = corners[number - 1], corners[number]
    return level(low[0], low[1], high[0], high[1], part)


def silent(case, against=False):
    """What the teller gains by silence."""
    return gains(case, silence(case.worlds()), against)[0]


def helps(case):
    """Whether telling helps: whether the most is more than silence is worth."""
    return under(silent(case), most(case)[0])


def is_part(thing):
    """Whether it is a fraction from 0 to 1."""
    return is_ratio(thing) and 0 <= thing[0] <= thing[1]


def mixed(one, other, part):
    """The shares at a part of the way."""
    return [plus(share, times(part, minus(second, share))) for share, second in zip(one, other)]


def level(start, low, end, high, part):
    """What lies at a part on the straight line from low at start to high at end."""
    return plus(low, times(minus(high, low), over(minus(part, start), minus(end, start))))


def line_at(mark, part):
    """What lies at a part on a mark's straight line."""
    return level((0, 1), mark.begin, (1, 1), mark.end, part)


def marks_between(case, one, other, low, high):
    """Marks between two of them, rising, with all parts among them at which the roof is not straight."""
    # A line through both marks lies above the roof and on it: then it is straight between them.
    if line_at(low, high.place) == high.height or line_at(high, low.place) == low.height:
        return []
    middle = Mark(case, one, other, crossing(low, high))
    below = marks_between(case, one, other, low, middle)
    return below + [middle] + marks_between(case, one, other, middle, high)


def crossing(low, high):
    """The part at which two marks' lines cross."""
    fall = minus(low.begin, high.begin)
    return over(fall, plus(fall, minus(high.end, low.end)))


def bent(marks):
    """The first and last mark, and those between at which the roof is not straight."""
    kept = [marks[0]]
    for number in range(1, len(marks) - 1):
        if not is_straight(kept[-1], marks[number], marks[number + 1]):
            kept.append(marks[number])
    return kept + [marks[-1]]


def is_straight(low, middle, high):
    """Whether a mark lies on the straight line between two others."""
    return level(low.place, low.height, high.place, high.height, middle.place) == middle.height
