"""Several hearers who hear the same word, made one whose deeds are lists of theirs."""

from besttelling.cases import Case, check_shares
from besttelling.doing import deed_by
from besttelling.errors import NoCounts, NoHearers
from besttelling.hearing import beliefs
from besttelling.ratios import is_whole_within, total
from besttelling.rows import MOST_DEEDS, is_list_of, is_ratio_row, wrong_row

MOST_HEARERS = 3


def joined(shares, hearers, teller):
    """The case of one hearer whose deeds are the lists of all hearers' deeds, and who gains what they gain together."""
    # The case itself would refuse shares, too, but only behind the hearers; the teller it refuses in time.
    check_shares(shares)
    check_hearers(hearers, len(shares))
    lists = all_lists([len(hearer[0]) for hearer in hearers])
    return Case(shares, [joined_row(hearers, world, lists) for world in range(len(shares))], teller)


def deed_lists(counts):
    """The lists of deeds of hearers with so many deeds each, the last one's deed changing soonest."""
    check_counts(counts)
    return all_lists(counts)


def each_does(case, counts, rule, word, against=False):
    """The deeds that hearers with so many deeds each do behind a word, a list."""
    check_counts(counts)
    if product(counts) != case.deeds():
        raise NoCounts()
    return list(all_lists(counts)[deed_by(case, beliefs(case, rule, word), against)])


def check_hearers(hearers, worlds):
    """Refuse what is no list of hearers of so many worlds."""
    if not is_list_of(hearers, 1, MOST_HEARERS):
        raise NoHearers(None)
    for number, hearer in enumerate(hearers):
        if not is_hearer(hearer, worlds):
            raise NoHearers(number)
    if product([len(hearer[0]) for hearer in hearers]) > MOST_DEEDS:
        raise NoHearers(None)


def is_hearer(thing, worlds):
    """Whether it is a hearer's gains for each world."""
    return is_list_of(thing, worlds, worlds) and wrong_row(thing, is_ratio_row, 1, MOST_DEEDS) is None


def check_counts(counts):
    """Refuse what is no list of numbers of deeds."""
    if not is_list_of(counts, 1, MOST_HEARERS):
        raise NoCounts()
    if not all([is_whole_within(count, 1, MOST_DEEDS) for count in counts]) or product(counts) > MOST_DEEDS:
        raise NoCounts()


def product(counts):
    """The whole numbers multiplied."""
    whole = 1
    for count in counts:
        whole *= count
    return whole


def all_lists(counts):
    """All tuples with a number below its count in each place, the last one changing soonest."""
    lists = [()]
    for count in counts:
        lists = [(*numbers, number) for numbers in lists for number in range(count)]
    return lists


def joined_row(hearers, world, lists):
    """What all hearers gain together in a world, for each list of deeds."""
    return [total([hearer[world][deed] for hearer, deed in zip(hearers, deeds)]) for deeds in lists]
