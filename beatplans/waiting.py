"""The least waits of a plan: times that have them, and cases that none wait less."""

from beatplans.alltimes import all_times
from beatplans.finding import first_wide, halved, times_or_none
from beatplans.forests import closing_rings, forest_from
from beatplans.joining import parts_of
from beatplans.plans import windows_of
from beatplans.prices import shown_by, waits_of
from beatplans.rings import ring_bars


def prices_of(weights, rings):
    """For each ring a price: the weight of the span that closes it, its first one."""
    # So nothing is left of these spans' weights: where the forest's lengths are told, the waits are shown to the beat.
    return tuple([(weights[ring[0][0]], ring) for ring in rings if weights[ring[0][0]] > 0])


def waits_cases(plan, period, weights, bound, forest, rings, windows):
    """Cases for a bound that no times are below: windows of the forest's spans are halved until it is shown."""
    for ring in rings:
        if ring_bars(plan, period, (), windows, ring):
            return ("ring", ring)
    prices = prices_of(weights, rings)
    if shown_by(plan, period, weights, windows, prices) >= bound:
        return ("prices", prices)
    s = first_wide(forest, windows)
    cut, sides = halved(windows, s)
    cases = [waits_cases(plan, period, weights, bound, forest, rings, side) for side in sides]
    return ("split", s, cut, cases[0], cases[1])


def bound_cases(plan, period, weights, bound):
    """Cases of waits of the whole plan for a bound that no times are below."""
    forest = forest_from(plan, [part[0] for part in parts_of(plan)])
    rings = closing_rings(plan, list(range(len(plan[0]))), forest)
    return waits_cases(plan, period, weights, bound, forest, rings, windows_of(plan, period))


def least_waits(plan, period, weights):
    """("least", waits, times, cases) with the least waits of all times, or ("none", cases), or TooMany."""
    rows = all_times(plan, period)
    if not rows:
        return times_or_none(plan, period)
    times = min(rows, key=lambda row: waits_of(plan, period, weights, row))
    waits = waits_of(plan, period, weights, times)
    return ("least", waits, times, bound_cases(plan, period, weights, waits))
