"""Rings of spans: what is one, what its windows come to, and whether it bars."""

from beatplans.plans import is_whole, is_within, length_of

MOST_ENTRIES = 60


def is_work_of(stays, thing):
    """Whether it is one of the works that stay."""
    return is_whole(thing) and thing in stays


def is_entry(plan, stays, thing):
    """Whether it is an entry that a ring of this plan with these stays can have."""
    if not isinstance(thing, tuple):
        return False
    if len(thing) == 3:
        word, start, end = thing
        return word == "home" and is_work_of(stays, start) and is_work_of(stays, end)
    if len(thing) != 2:
        return False
    s, way = thing
    return is_within(s, 0, len(plan[1]) - 1) and is_whole(way) and way in (1, -1)


def ends_of(plan, entry):
    """The work at which this entry begins, and the one at which it ends."""
    if len(entry) == 3:
        return (entry[1], entry[2])
    s, way = entry
    word, one, other, low, high = plan[1][s]
    return (one, other) if way == 1 else (other, one)


def is_ring(plan, stays, thing):
    """Whether it is a ring of this plan with these stays."""
    if not (isinstance(thing, tuple) and 1 <= len(thing) <= MOST_ENTRIES):
        return False
    if not all([is_entry(plan, stays, entry) for entry in thing]):
        return False
    ends = [ends_of(plan, entry) for entry in thing]
    # The entry ahead of the first one is the last one: place -1 is just that.
    return all([ends[at - 1][1] == ends[at][0] for at in range(len(ends))])


def entry_sums(beats, windows, entry):
    """The least and the most that this entry adds to a ring's sums."""
    if len(entry) == 3:
        apart = beats[entry[2]] - beats[entry[1]]
        return (apart, apart)
    s, way = entry
    least, most = windows[s]
    return (least, most) if way == 1 else (-most, -least)


def sums_of(plan, period, beats, windows, ring):
    """The sums of this ring: the pair of the least and the most."""
    sums = [entry_sums(beats, windows, entry) for entry in ring]
    return (sum([least for least, most in sums]), sum([most for least, most in sums]))


def ring_bars(plan, period, beats, windows, ring):
    """Whether no whole number of rounds lies from the least to the most of this ring's sums."""
    least, most = sums_of(plan, period, beats, windows, ring)
    return most // period * period < least


def rounds_in(plan, period, beats, ring):
    """How many rounds the lengths around this ring, one without homes, add up to."""
    return sum([way * length_of(plan, period, beats, s) for s, way in ring]) // period
