"""Times of a plan found, or cases that it has none."""

from beatplans.errors import TooMany
from beatplans.forests import beats_along, closing_rings, forest_from
from beatplans.joining import parts_of
from beatplans.plans import windows_of, with_window
from beatplans.rings import ring_bars

MOST_SIZE = 300


def staying(part, stays):
    """The works of this part that stay."""
    return [work for work in part if work in stays]


def size_of(plan, period, stays):
    """How many beats there are to go through: those of the works that neither stay nor begin a free part."""
    free = [part for part in parts_of(plan) if not staying(part, stays)]
    size = 1
    for turn in range(len(plan[0]) - len(stays) - len(free)):
        size *= period
    return size


def refuse_great(plan, period, stays):
    """TooMany where the plan is too great to be gone through."""
    if size_of(plan, period, stays) > MOST_SIZE:
        raise TooMany("plan")


def first_void(windows):
    """The number of the first span whose window is void, None where none is."""
    for s, (least, most) in enumerate(windows):
        if most < least:
            return s
    return None


def first_wide(forest, windows):
    """The number of the first span of the forest of which more than one length is left, None where none is."""
    for s, way in forest.values():
        least, most = windows[s]
        if least < most:
            return s
    return None


def halved(windows, s):
    """The cut that halves the window of span s, and the windows of the lower side and of the upper one."""
    least, most = windows[s]
    cut = (least + most) // 2
    return (cut, (with_window(windows, s, (least, cut)), with_window(windows, s, (cut + 1, most))))


def seek(plan, period, beats, forest, rings, windows):
    """("times", windows) with one length left of each span of the forest, no ring barring, or ("none", cases)."""
    for ring in rings:
        if ring_bars(plan, period, beats, windows, ring):
            return ("none", ("ring", ring))
    s = first_wide(forest, windows)
    if s is None:
        return ("times", windows)
    cut, sides = halved(windows, s)
    cases = []
    for side in sides:
        word, found = seek(plan, period, beats, forest, rings, side)
        if word == "times":
            return ("times", found)
        cases.append(found)
    return ("none", ("split", s, cut, cases[0], cases[1]))


def times_or_none_with(plan, period, beats, stays):
    """("times", times) that have these works at these beats, or ("none", cases) that none do."""
    refuse_great(plan, period, stays)
    windows = windows_of(plan, period)
    void = first_void(windows)
    if void is not None:
        return ("none", ("ring", ((void, 1), (void, -1))))
    times = tuple([beats[work] if work in stays else 0 for work in range(len(plan[0]))])
    for part in parts_of(plan):
        forest = forest_from(plan, staying(part, stays) or part[:1])
        word, found = seek(plan, period, times, forest, closing_rings(plan, part, forest), windows)
        if word == "none":
            return ("none", found)
        times = beats_along(plan, period, times, forest, [least for least, most in found])
    return ("times", times)


def times_or_none(plan, period):
    """("times", times) of the plan by this round, or ("none", cases) that there are none."""
    return times_or_none_with(plan, period, (), ())
