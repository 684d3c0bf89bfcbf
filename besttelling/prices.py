"""Prices: on worlds, and on deeds that might be done instead; they bound what any rule gains."""

from besttelling.errors import NoShares
from besttelling.ratios import greatest, minus, plus, times, total, under
from besttelling.rows import is_list_of, is_ratio_row, is_share, is_share_row


def lets_prices(case, thing):
    """Whether it, of any kind, is prices that are let by for the case."""
    if not isinstance(thing, tuple) or len(thing) != 2:
        return False
    worlds, instead = thing
    if not is_ratio_row(worlds, case.worlds(), case.worlds()) or not is_instead(instead, case.deeds()):
        return False
    return not any([under(price, least) for price, least in zip(worlds, least_prices(case, instead))])


def bound(case, prices, shares=None):
    """What no rule gains more than by shares, the case's own ones where they are None."""
    if shares is None:
        shares = case.shares()
    if not is_share_row(shares, case.worlds(), case.worlds()):
        raise NoShares()
    return total([times(share, price) for share, price in zip(shares, prices[0])])


def is_instead(thing, deeds):
    """Whether it is a list of lists with a price of each deed instead of each one, nought of itself."""
    if not is_list_of(thing, deeds, deeds):
        return False
    return all([is_instead_row(row, deed, deeds) for deed, row in enumerate(thing)])


def is_instead_row(thing, deed, deeds):
    """Whether it is a list of fractions from nought on, one for each deed, nought of the deed itself."""
    if not is_list_of(thing, deeds, deeds):
        return False
    return all([is_share(one) for one in thing]) and thing[deed] == (0, 1)


def least_prices(case, instead):
    """For each world the least price on it that is let by."""
    return [least_price(hearer, teller, instead) for hearer, teller in zip(case.hearer(), case.teller())]


def least_price(hearer, teller, instead):
    """The least price on a world with these gains that is let by."""
    return greatest([plus(gain, fined(hearer, deed, instead[deed])) for deed, gain in enumerate(teller)])


def fined(hearer, deed, fines):
    """The sum over the deeds of fines times what the hearer gains by the deed more than by that one."""
    return total([times(fine, minus(hearer[deed], other)) for fine, other in zip(fines, hearer)])
