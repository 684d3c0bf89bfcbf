"""The most that the teller gains by any rule.

Any rule's words can be made advice that is followed and gains as much, and such advice is shares within linear bounds:
so the best is found by climbing on a board. Its amounts are (0, spot, deed), how often the deed is advised in a world
whose share is above nought, and (1, deed, other), what the hearer would lose by the other deed where one is advised.
"""

from besttelling.boards import Board
from besttelling.prices import bound, least_prices
from besttelling.ratios import greatest, lowest, minus, over, times, wholes
from besttelling.rules import Rule


class Spot:
    """A world whose share is above nought, measured so that the hearer's gains in it are small whole numbers."""

    def __init__(self, share, hearer, teller):
        highest = greatest(hearer)
        # Where the hearer's best deed is advised in each world, advice is followed: there the climb begins.
        self.start = hearer.index(highest)
        self.lags, measure = wholes([minus(highest, gain) for gain in hearer])
        self.mass = over(share, measure)
        self.goals = [times(measure, minus(gain, teller[self.start])) for gain in teller]


def most(case):
    """The most, advice that gains it, and prices that show that no rule gains more."""
    live = live_worlds(case)
    shares, hearer, teller = case.shares(), case.hearer(), case.teller()
    spots = [Spot(shares[world], hearer[world], teller[world]) for world in live]
    goals, measure = wholes([spots[place].goals[deed] for kind, place, deed in free_names(spots)])
    board = Board(opened_grid(spots, goals), base_names(spots), free_names(spots))
    board.climb()
    instead = instead_prices(board, measure, case.deeds())
    prices = (least_prices(case, instead), instead)
    return (bound(case, prices), Rule(advice_rows(board, live, case)), prices)


def live_worlds(case):
    """The worlds whose share is above nought."""
    return [world for world, share in enumerate(case.shares()) if share[0] > 0]


def free_names(spots):
    """The names of the amounts that are nought at first."""
    return [(0, place, deed) for place, spot in enumerate(spots)
            for deed in range(len(spot.goals)) if deed != spot.start]


def base_names(spots):
    """The names of the other amounts."""
    return [(0, place, spot.start) for place, spot in enumerate(spots)] + pair_names(len(spots[0].goals))


def pair_names(deeds):
    """The names of what is lost by other deeds."""
    return [(1, deed, other) for deed in range(deeds) for other in range(deeds) if deed != other]


def opened_grid(spots, goals):
    """The board's numbers at first."""
    free = free_names(spots)
    masses = wholes([spot.mass for spot in spots])[0]
    grid = [spot_row(place, free, masses) for place in range(len(spots))]
    for kind, deed, other in pair_names(len(spots[0].goals)):
        grid.append(pair_row(deed, other, spots, free, masses))
    return grid + [[-goal for goal in goals] + [0]]


def spot_row(place, free, masses):
    """How often a world's first deed is advised: where no other one is."""
    return [1 if name[1] == place else 0 for name in free] + [masses[place]]


def pair_row(deed, other, spots, free, masses):
    """What the hearer would lose by the other deed, where a deed is advised."""
    row = [pair_part(deed, other, spots[place], advised) for kind, place, advised in free]
    starting = [mass * spot.lags[other] for spot, mass in zip(spots, masses) if spot.start == deed]
    return row + [sum(starting)]


def pair_part(deed, other, spot, advised):
    """By how much less would be lost for each 1 by which a deed is advised more often in a world."""
    if advised == deed:
        return spot.lags[deed] - spot.lags[other]
    # What is advised more often is so in place of the world's first deed.
    return spot.lags[other] if spot.start == deed else 0


def instead_prices(board, measure, deeds):
    """The prices on deeds that might be done instead."""
    told = [[(0, 1)] * deeds for deed in range(deeds)]
    for name in pair_names(deeds):
        told[name[1]][name[2]] = over(lowest(board.worth(name), board.scale), measure)
    return told


def advice_rows(board, live, case):
    """The rows of the advice that the board tells; in worlds whose share is nought deed 0 is advised."""
    rows = [[(1, 1)] + [(0, 1)] * (case.deeds() - 1) for world in range(case.worlds())]
    for place, world in enumerate(live):
        amounts = [board.amount((0, place, deed)) for deed in range(case.deeds())]
        rows[world] = [lowest(amount, sum(amounts)) for amount in amounts]
    return rows
