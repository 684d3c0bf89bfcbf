"""Rules of few words by which the most is gained."""

from besttelling.mosts import live_worlds, most
from besttelling.rules import Rule


def few(case):
    """A rule of no more words than worlds with a share above nought, nor than deeds, that gains the most."""
    # The advice is a corner of all that is followed. Of more words than worlds some could be said a bit more often and
    # others less, or the other way round, and still be followed: that would be no corner. So what is said is few.
    live = live_worlds(case)
    rows = most(case)[1].rows()
    said = [word for word in range(case.deeds()) if any([rows[world][word][0] > 0 for world in live])]
    told = [[(1, 1)] + [(0, 1)] * (len(said) - 1) for world in range(case.worlds())]
    for world in live:
        told[world] = [rows[world][word] for word in said]
    return Rule(told)
