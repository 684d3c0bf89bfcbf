"""Rules of few words by which the most is gained."""

from besttelling.mosts import live_worlds, most
from besttelling.rules import Rule


def few(case):
    """A rule of no more words than worlds with a share above nought, nor than deeds, that gains the most."""
    return most_told(case)[1]


def most_told(case):
    """The most, and the rule of few words that gains it."""
    # The advice is a corner of all that is followed. Of more words than worlds some could be said a bit more often and
    # others less, or the other way round, and still be followed: that would be no corner. So what is said is few.
    gain, advice, prices = most(case)
    return (gain, said_only(advice, live_worlds(case)))


def said_only(advice, live):
    """The rule of those words alone that are said in live worlds; in all other worlds its first word is said."""
    rows = advice.rows()
    said = [word for word in range(len(advice)) if any([rows[world][word][0] > 0 for world in live])]
    told = [[(1, 1)] + [(0, 1)] * (len(said) - 1) for row in rows]
    for world in live:
        told[world] = [rows[world][word] for word in said]
    return Rule(told)
