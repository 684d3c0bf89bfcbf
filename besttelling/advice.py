"""Advice: rules with one word for each deed, which advises it."""

from besttelling.doing import deeds_done
from besttelling.errors import NoAdvice
from besttelling.hearing import check_alike, masses
from besttelling.ratios import minus, times, total
from besttelling.telling import grouped


def advised(case, rule, against=False):
    """The rule's words made advice: each word is put to the deed that is done behind it."""
    done = deeds_done(case, rule, against)
    return grouped(rule, [0 if deed is None else deed for deed in done], case.deeds())


def faults(case, rule):
    """All (d, e, much) where advice d falls short against another deed e, sorted."""
    check_alike(case, rule)
    if len(rule) != case.deeds():
        raise NoAdvice(len(rule))
    rows = case.hearer()
    told = []
    for deed in range(case.deeds()):
        weights = masses(case, rule, deed)
        for other in range(case.deeds()):
            much = lead(rows, weights, other, deed)
            if much[0] > 0:
                told.append((deed, other, much))
    return told


def is_followed(case, rule):
    """Whether advice falls short against no deed."""
    return len(faults(case, rule)) == 0


def lead(rows, weights, deed, other):
    """By how much a deed is worth more to the hearer than another one, by weights of the worlds."""
    return total([times(weight, minus(row[deed], row[other])) for weight, row in zip(weights, rows)])
