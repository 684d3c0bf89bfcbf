"""Cases and rules whose worlds, deeds and words are called by other numbers."""

from besttelling.cases import Case
from besttelling.errors import NoOrder
from besttelling.ratios import is_whole_within
from besttelling.rows import is_list_of
from besttelling.rules import Rule


def renamed(case, worlds, deeds):
    """The case whose world k is the one's world worlds[k], and whose deed k is its deed deeds[k]."""
    check_order("worlds", worlds, case.worlds())
    check_order("deeds", deeds, case.deeds())
    shares = case.shares()
    return Case([shares[world] for world in worlds],
                reordered(case.hearer(), worlds, deeds), reordered(case.teller(), worlds, deeds))


def renamed_rule(rule, worlds, words):
    """The rule whose world k is the one's world worlds[k], and whose word k is its word words[k]."""
    check_order("worlds", worlds, rule.worlds())
    check_order("words", words, len(rule))
    return Rule(reordered(rule.rows(), worlds, words))


def check_order(part, order, many):
    """Refuse what is no list of all numbers below many, each once."""
    if not is_list_of(order, many, many) or not all([is_whole_within(number, 0, many - 1) for number in order]):
        raise NoOrder(part)
    if len(set(order)) != many:
        raise NoOrder(part)


def reordered(rows, worlds, places):
    """The rows in the order of worlds, each row's fractions in the order of places."""
    return [[rows[world][place] for place in places] for world in worlds]
