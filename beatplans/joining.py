"""The parts of a plan, and the beats that lengths come of."""

from beatplans.forests import beats_along, closing_rings, forest_from
from beatplans.rings import ring_bars


def parts_of(plan):
    """The parts: a rising tuple of rising tuples of works that spans join."""
    parts = []
    placed = []
    for work in range(len(plan[0])):
        if work not in placed:
            part = sorted([work] + list(forest_from(plan, [work])))
            placed.extend(part)
            parts.append(tuple(part))
    return tuple(parts)


def beats_by(plan, period, lengths):
    """("beats", beats) of which these lengths come, or ("ring", ring) by which they come of none."""
    windows = [(length, length) for length in lengths]
    beats = (0,) * len(plan[0])
    for part in parts_of(plan):
        forest = forest_from(plan, part[:1])
        for ring in closing_rings(plan, part, forest):
            if ring_bars(plan, period, beats, windows, ring):
                return ("ring", ring)
        beats = beats_along(plan, period, beats, forest, lengths)
    return ("beats", beats)
