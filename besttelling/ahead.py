"""Hearers who heard a word of a known rule ahead, the teller knowing which."""

from besttelling.errors import TooMany
from besttelling.fewwords import most_told
from besttelling.hearing import behind, chance
from besttelling.mosts import most
from besttelling.ratios import minus, plus, times, total
from besttelling.rows import MOST_WORDS
from besttelling.rules import Rule


def ahead(case, rule):
    """What is gained behind a rule heard ahead, and for each word that is said (word, most, rule that gains it)."""
    parts = []
    gained = []
    for word in range(len(rule)):
        often = chance(case, rule, word)
        if often != (0, 1):
            gain, told = most_told(behind(case, rule, word))
            parts.append((word, gain, told))
            gained.append(times(often, gain))
    return (total(gained), parts)


def lost(case, rule):
    """What is lost by a rule heard ahead."""
    return minus(most(case)[0], ahead(case, rule)[0])


def told_on(case, rule):
    """The rule by which a word of the rule ahead and one of what is told behind it are told at once."""
    parts = ahead(case, rule)[1]
    many = sum([len(told) for word, gain, told in parts])
    if many > MOST_WORDS:
        raise TooMany(many)
    return Rule([told_on_row(row, world, parts) for world, row in enumerate(rule.rows())])


def told_on_row(row, world, parts):
    """A world's row of all that is told at once."""
    shares = [times(row[word], share) for word, gain, told in parts for share in told.rows()[world]]
    # Words that are never said have no part; where this world's share is nought they may have shares here all the same.
    left = minus((1, 1), total(shares))
    return [plus(shares[0], left)] + shares[1:]
