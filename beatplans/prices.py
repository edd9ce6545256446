"""Waits of beats, and prices of rings that show how many waits there are at least."""

from beatplans.plans import is_within, lengths_of
from beatplans.rings import is_ring, sums_of

MOST_PRICES = 24
MOST_PRICE = 999


def waits_of(plan, period, weights, beats):
    """The waits of these beats: for each span the weight times what its length is above low."""
    lengths = lengths_of(plan, period, beats)
    return sum([weights[s] * (lengths[s] - plan[1][s][3]) for s in range(len(plan[1]))])


def is_priced_ring(plan, thing):
    """Whether it is a pair of a price and a ring without homes."""
    if not (isinstance(thing, tuple) and len(thing) == 2):
        return False
    price, ring = thing
    return is_within(price, 1, MOST_PRICE) and is_ring(plan, (), ring)


def are_prices(plan, thing):
    """Whether it is prices of this plan."""
    if not (isinstance(thing, tuple) and len(thing) <= MOST_PRICES):
        return False
    return all([is_priced_ring(plan, pair) for pair in thing])


def left_of(weights, prices):
    """What these prices leave of each span's weight, in order."""
    left = list(weights)
    for price, ring in prices:
        for s, way in ring:
            left[s] -= price * way
    return left


def shown_by_span(low, window, left):
    """What a span adds to what is shown, so much of its weight left."""
    least, most = window
    return left * ((least if left >= 0 else most) - low)


def shown_by_ring(plan, period, windows, price, ring):
    """What a priced ring adds to what is shown: its lengths come to whole rounds, not below its least sum."""
    least, most = sums_of(plan, period, (), windows, ring)
    rounds = -(-least // period)
    lows = sum([way * plan[1][s][3] for s, way in ring])
    return price * (rounds * period - lows)


def shown_by(plan, period, weights, windows, prices):
    """So many waits at least have all beats whose lengths lie in these windows."""
    left = left_of(weights, prices)
    by_spans = [shown_by_span(plan[1][s][3], windows[s], left[s]) for s in range(len(plan[1]))]
    by_rings = [shown_by_ring(plan, period, windows, price, ring) for price, ring in prices]
    return sum(by_spans) + sum(by_rings)
