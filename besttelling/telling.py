"""Rules made of a number of worlds, or of other rules."""

from besttelling.errors import NoGroups, NoNumber, TooMany, Unlike
from besttelling.ratios import is_whole_within, plus, times
from besttelling.rows import MOST_WORDS, MOST_WORLDS, is_list_of
from besttelling.rules import Rule


def silence(worlds):
    """The rule of one word that is always said."""
    check_worlds(worlds)
    return Rule([[(1, 1)] for world in range(worlds)])


def all_told(worlds):
    """The rule by which each world's own word is said in it."""
    check_worlds(worlds)
    return Rule([told_row(world, worlds) for world in range(worlds)])


def beside(one, other):
    """Two rules side by side, a word of each said by itself."""
    if one.worlds() != other.worlds():
        raise Unlike(one.worlds(), other.worlds())
    many = len(one) * len(other)
    if many > MOST_WORDS:
        raise TooMany(many)
    return Rule([row_beside(row, second) for row, second in zip(one.rows(), other.rows())])


def grouped(rule, groups, many):
    """The rule whose word k is said where one of the words with k in groups was."""
    if not is_whole_within(many, 1, MOST_WORDS):
        raise NoNumber(many)
    check_groups(groups, len(rule), many)
    return Rule([grouped_row(row, groups, many) for row in rule.rows()])


def check_worlds(worlds):
    """Refuse what is no number of worlds."""
    if not is_whole_within(worlds, 1, MOST_WORLDS):
        raise NoNumber(worlds)


def check_groups(groups, words, many):
    """Refuse what is no list with a number below many for each word."""
    if not is_list_of(groups, words, words):
        raise NoGroups(None)
    for word, group in enumerate(groups):
        if not is_whole_within(group, 0, many - 1):
            raise NoGroups(word)


def told_row(world, worlds):
    """The row of a world in which its own word alone is said."""
    return [(1, 1) if word == world else (0, 1) for word in range(worlds)]


def row_beside(row, second):
    """The shares of all pairs of words, the second's word changing soonest."""
    return [times(share, other) for share in row for other in second]


def grouped_row(row, groups, many):
    """The row in which words of the same group are one."""
    told = [(0, 1)] * many
    for share, group in zip(row, groups):
        told[group] = plus(told[group], share)
    return told
