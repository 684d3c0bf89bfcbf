"""Fractions: tuples (top, bottom) of whole numbers in lowest terms, the bottom from 1 on."""

from besttelling.errors import ByNought, NoNumber


def is_whole(thing):
    """Whether it is a whole number; True and False are none."""
    return isinstance(thing, int) and not isinstance(thing, bool)


def is_whole_within(thing, least, most):
    """Whether it is a whole number from least to most."""
    return is_whole(thing) and least <= thing <= most


def is_ratio(thing):
    """Whether it, of any kind, is a fraction."""
    if not isinstance(thing, tuple) or len(thing) != 2:
        return False
    top, bottom = thing
    if not is_whole(top) or not is_whole(bottom):
        return False
    return bottom >= 1 and divisor(top, bottom) == 1


def made(top, bottom=1):
    """The fraction of two whole numbers."""
    for thing in (top, bottom):
        if not is_whole(thing):
            raise NoNumber(thing)
    if bottom == 0:
        raise ByNought()
    return lowest(top, bottom)


def plus(one, other):
    """The sum of two fractions."""
    return lowest(one[0] * other[1] + other[0] * one[1], one[1] * other[1])


def minus(one, other):
    """The difference of two fractions."""
    return lowest(one[0] * other[1] - other[0] * one[1], one[1] * other[1])


def times(one, other):
    """The product of two fractions."""
    return lowest(one[0] * other[0], one[1] * other[1])


def over(one, other):
    """The quotient of two fractions."""
    if other[0] == 0:
        raise ByNought()
    return lowest(one[0] * other[1], one[1] * other[0])


def under(one, other):
    """Whether the first fraction is less than the second one."""
    return one[0] * other[1] < other[0] * one[1]


def total(some, start=None):
    """The sum of a list of fractions and a start."""
    whole = (0, 1) if start is None else start
    for one in some:
        whole = plus(whole, one)
    return whole


def greatest(some):
    """The greatest of a list of at least one fraction."""
    found = some[0]
    for one in some:
        if under(found, one):
            found = one
    return found


def wholes(some):
    """The least whole numbers in the proportions of a list of fractions, and what these were multiplied by."""
    bottom = 1
    for one in some:
        bottom = bottom * one[1] // divisor(bottom, one[1])
    tops = [one[0] * (bottom // one[1]) for one in some]
    by = 0
    for top in tops:
        by = divisor(by, top)
    # Noughts alone have no greatest divisor.
    by = max(by, 1)
    return ([top // by for top in tops], lowest(bottom, by))


def lowest(top, bottom):
    """The fraction of two whole numbers whose bottom is not 0."""
    by = divisor(top, bottom)
    # A fraction's sign stands at its top.
    if bottom < 0:
        by = -by
    return (top // by, bottom // by)


def divisor(one, other):
    """The greatest number that divides both, 0 where both are 0."""
    while other != 0:
        one, other = other, one % other
    return abs(one)
