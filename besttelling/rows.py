"""What cases and rules have alike: rows of fractions, one row for each world."""

from besttelling.ratios import is_ratio, total

MOST_WORLDS = 5
MOST_DEEDS = 6
MOST_WORDS = 30


def is_list_of(thing, least, most):
    """Whether it is a list of least to most things."""
    return isinstance(thing, list) and least <= len(thing) <= most


def is_share(thing):
    """Whether it is a fraction from nought on."""
    return is_ratio(thing) and thing[0] >= 0


def is_ratio_row(thing, least, most):
    """Whether it is a list of least to most fractions."""
    return is_list_of(thing, least, most) and all([is_ratio(one) for one in thing])


def is_share_row(thing, least, most):
    """Whether it is a list of least to most fractions from nought on, together 1."""
    if not is_list_of(thing, least, most) or not all([is_share(one) for one in thing]):
        return False
    return total(thing) == (1, 1)


def wrong_row(rows, is_row, least, most):
    """The number of the first thing that is no row, or None; the first row tells how long all are."""
    for number, row in enumerate(rows):
        if not is_row(row, least, most):
            return number
        least = most = len(row)
    return None


def copied_rows(rows):
    """A new list of new lists."""
    return [list(row) for row in rows]
