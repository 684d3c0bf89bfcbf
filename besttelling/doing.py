"""Doing: what deeds are worth by beliefs, which one is done, and what is gained by a rule."""

from besttelling.errors import NoBeliefs, NoDeed
from besttelling.hearing import masses
from besttelling.ratios import greatest, is_whole_within, minus, times, total
from besttelling.rows import is_share_row


def worths(case, beliefs, deed):
    """What a deed is worth by beliefs: to the hearer, to the teller."""
    check_beliefs(case, beliefs)
    if not is_whole_within(deed, 0, case.deeds() - 1):
        raise NoDeed(deed)
    return (worth_by(case.hearer(), beliefs, deed), worth_by(case.teller(), beliefs, deed))


def best(case, beliefs):
    """The deeds that are worth most to the hearer by beliefs."""
    check_beliefs(case, beliefs)
    return best_by(case, beliefs)


def deed_by(case, beliefs, against=False):
    """The deed that the hearer does by beliefs, with ties for the teller or against."""
    check_beliefs(case, beliefs)
    return done_by(case, beliefs, against)


def deeds_done(case, rule, against=False):
    """For each word the deed done behind it, None of a word that is never said."""
    return [deed for weights, deed in words_done(case, rule, against)]


def gains(case, rule, against=False):
    """What teller and hearer gain by a rule."""
    said = [(weights, deed) for weights, deed in words_done(case, rule, against) if deed is not None]
    teller, hearer = case.teller(), case.hearer()
    return (total([worth_by(teller, weights, deed) for weights, deed in said]),
            total([worth_by(hearer, weights, deed) for weights, deed in said]))


def words_done(case, rule, against):
    """For each word its weights of the worlds, and the deed done behind it or None."""
    told = []
    for word in range(len(rule)):
        weights = masses(case, rule, word)
        never = total(weights) == (0, 1)
        told.append((weights, None if never else done_by(case, weights, against)))
    return told


def check_beliefs(case, beliefs):
    """Refuse what is no beliefs for the case's worlds."""
    if not is_share_row(beliefs, case.worlds(), case.worlds()):
        raise NoBeliefs()


# From here on beliefs need not come to 1, and are called weights: which deed is done stays the same where all of them
# are multiplied by a number, and weights that come to a word's chance make worths that need only be added.


def worth_by(rows, weights, deed):
    """The sum over the worlds of weights times the deed's gains."""
    return total([times(weight, row[deed]) for weight, row in zip(weights, rows)])


def best_by(case, weights):
    """The deeds that are worth most to the hearer by weights."""
    rows = case.hearer()
    worth = [worth_by(rows, weights, deed) for deed in range(case.deeds())]
    highest = greatest(worth)
    return tuple([deed for deed in range(case.deeds()) if worth[deed] == highest])


def done_by(case, weights, against):
    """The deed that is done by weights."""
    deeds = best_by(case, weights)
    rows = case.teller()
    worth = [worth_by(rows, weights, deed) for deed in deeds]
    if against:
        worth = [minus((0, 1), one) for one in worth]
    return deeds[worth.index(greatest(worth))]
