"""Hearing: a word's chance in a case, and what the hearer believes behind it."""

from besttelling.errors import NoWord, Unlike, Unsaid
from besttelling.ratios import is_whole_within, over, times, total


def chance(case, rule, word):
    """The chance of a word."""
    return total(masses(case, rule, word))


def beliefs(case, rule, word):
    """The hearer's beliefs behind a word."""
    weights = masses(case, rule, word)
    whole = total(weights)
    if whole == (0, 1):
        raise Unsaid(word)
    return [over(weight, whole) for weight in weights]


def behind(case, rule, word):
    """The case with the beliefs behind a word as shares."""
    return case.with_shares(beliefs(case, rule, word))


def masses(case, rule, word):
    """For each world the chance that it is there and the word is said; NoWord of what is no word of the rule."""
    check_alike(case, rule)
    if not is_whole_within(word, 0, len(rule) - 1):
        raise NoWord(word)
    return [times(share, row[word]) for share, row in zip(case.shares(), rule.rows())]


def check_alike(case, rule):
    """Refuse a rule of another number of worlds than the case's."""
    if case.worlds() != rule.worlds():
        raise Unlike(case.worlds(), rule.worlds())
