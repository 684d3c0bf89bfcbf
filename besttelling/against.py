"""Ties against the teller, of two worlds: the limit of what rules gain.

Beliefs are told by the second world's one alone. What silence is worth by them, with ties against, is straight but at
breaks, where it may bend or leap down. A rule gains what lies between worths at beliefs, the case's own share between
them; beliefs just beside a break may come as near to it as is wished, so that what silence is worth there counts as if
it were worth so much at the break itself.
"""

from besttelling.doing import best_by, done_by, gains, worth_by
from besttelling.errors import NoPart, NotTwo
from besttelling.ratios import greatest, is_ratio, minus, over, plus, times, under, wholes
from besttelling.roofs import level, silent
from besttelling.rules import Rule
from besttelling.telling import silence


class Post:
    """A belief, what silence counts as worth there, and the belief on the way to which it comes near to that."""

    def __init__(self, belief, height, aim):
        self.belief = belief
        self.height = height
        self.aim = aim


def limit(case):
    """What no rule gains more than with ties against, and rules come as near to as is wished."""
    check_two(case)
    if is_sure(case):
        return silent(case, True)
    low, high = best_pair(posts_beside(case), case.shares()[1])
    return pair_height(low, high, case.shares()[1])


def near(case, far):
    """A rule that gains more than the limit less a fraction with ties against."""
    check_two(case)
    if not is_ratio(far) or far[0] <= 0:
        raise NoPart(far)
    rule = gained(case)
    if rule is not None:
        return rule
    share = case.shares()[1]
    low, high = best_pair(posts_beside(case), share)
    least = minus(pair_height(low, high, share), far)
    step = (1, 2)
    rule = parting(share, moved(low, step), moved(high, step))
    while not under(least, gains(case, rule, True)[0]):
        step = times(step, (1, 10))
        rule = parting(share, moved(low, step), moved(high, step))
    return rule


def gained(case):
    """A rule that gains just the limit with ties against, or None where none does."""
    goal = limit(case)
    if silent(case, True) == goal:
        return silence(2)
    share = case.shares()[1]
    low, high = best_pair(posts_at(case), share)
    if pair_height(low, high, share) != goal:
        return None
    return parting(share, low.belief, high.belief)


def check_two(case):
    """Refuse a case of another number of worlds than two."""
    if case.worlds() != 2:
        raise NotTwo(case.worlds())


def is_sure(case):
    """Whether all of the shares lie in one world."""
    return (1, 1) in case.shares()


def weights_at(belief):
    """The beliefs in both worlds."""
    return [minus((1, 1), belief), belief]


def done_at(case, belief):
    """The deed that is done by a belief, with ties against."""
    return done_by(case, weights_at(belief), True)


def teller_at(case, belief, deed):
    """What a deed is worth to the teller by a belief."""
    return worth_by(case.teller(), weights_at(belief), deed)


def breaks(case):
    """Beliefs, rising, between which what silence is worth lies on straight lines: 0, the share and 1 among them."""
    found = [(0, 1), case.shares()[1], (1, 1)]
    for rows in (case.hearer(), case.teller()):
        for deed in range(case.deeds()):
            found.extend(ties(case, rows, deed))
    return in_order(found)


def ties(case, rows, deed):
    """The beliefs by which a deed and one behind it are worth the same, and are both best for the hearer."""
    found = []
    for other in range(deed + 1, case.deeds()):
        first, second = [minus(row[deed], row[other]) for row in rows]
        # Else they tie everywhere, nowhere, or only where all is believed of one world.
        if first[0] * second[0] < 0:
            belief = over(first, minus(first, second))
            best = best_by(case, weights_at(belief))
            if deed in best and other in best:
                found.append(belief)
    return found


def in_order(beliefs):
    """The beliefs in rising order, each once."""
    by_top = {top: belief for top, belief in zip(wholes(beliefs)[0], beliefs)}
    return [by_top[top] for top in sorted(by_top)]


def middle(one, other):
    """The belief in the middle of two."""
    return times(plus(one, other), (1, 2))


def posts_beside(case):
    """For both ends of each straight line a post to which one comes near on the line."""
    found = []
    beliefs = breaks(case)
    for low, high in zip(beliefs, beliefs[1:]):
        deed = done_at(case, middle(low, high))
        found.append(Post(low, teller_at(case, low, deed), high))
        found.append(Post(high, teller_at(case, high, deed), low))
    return found


def posts_at(case):
    """Posts that stay where they are: at breaks, and one on each straight line."""
    beliefs = breaks(case)
    beliefs = beliefs + [middle(low, high) for low, high in zip(beliefs, beliefs[1:])]
    return [Post(belief, teller_at(case, belief, done_at(case, belief)), belief) for belief in beliefs]


def best_pair(posts, share):
    """A post below the share and one above it, between which the most lies at the share."""
    lows = [post for post in posts if under(post.belief, share) or (post.belief == share and under(post.aim, share))]
    highs = [post for post in posts if under(share, post.belief) or (post.belief == share and under(share, post.aim))]
    pairs = [(low, high) for low in lows for high in highs if low.belief != high.belief]
    heights = [pair_height(low, high, share) for low, high in pairs]
    return pairs[heights.index(greatest(heights))]


def pair_height(low, high, share):
    """What lies at the share between two posts."""
    return level(low.belief, low.height, high.belief, high.height, share)


def moved(post, step):
    """The belief at a part of the way from a post to its aim."""
    return plus(post.belief, times(step, minus(post.aim, post.belief)))


def parting(share, low, high):
    """The rule of two words behind which the beliefs are low and high, the share between them."""
    often = over(minus(share, low), minus(high, low))
    second = over(times(often, high), share)
    first = over(times(often, minus((1, 1), high)), minus((1, 1), share))
    return Rule([[minus((1, 1), first), first], [minus((1, 1), second), second]])
