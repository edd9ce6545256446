"""Beats mended: times that differ from them at fewest works, and cases that none differ at fewer."""

from beatplans.finding import times_or_none, times_or_none_with
from beatplans.joining import parts_of
from beatplans.movechecker import differing


def rows_of_stays(works):
    """All rising tuples of so many works, those of most works first."""
    rows = [()]
    for work in range(works):
        rows = rows + [row + (work,) for row in rows]
    return sorted(rows, key=len, reverse=True)


def nearest_times(plan, period, beats):
    """Times that keep as many of these beats as can be, of a plan that has times."""
    for stays in rows_of_stays(len(plan[0])):
        word, found = times_or_none_with(plan, period, beats, stays)
        if word == "times":
            return found
    return None


def works_to_tell(plan, beats, times):
    """The works of the parts in which these times differ from the beats: the others may all stay."""
    works = []
    for part in parts_of(plan):
        if any([beats[work] != times[work] for work in part]):
            works.extend(part)
    return works


def stay_cases(plan, period, beats, count, works, stays, moved):
    """Cases of moving for a count that no times are below: these works are told to stay or to be moved, one by one."""
    if moved >= count:
        return ("enough",)
    word, found = times_or_none_with(plan, period, beats, stays)
    if word == "none":
        return found
    # A work is left: with all of them told, and fewer moved than the count, those that stay have no times.
    work, *others = works
    kept_cases = stay_cases(plan, period, beats, count, others, stays + (work,), moved)
    moved_cases = stay_cases(plan, period, beats, count, others, stays, moved + 1)
    return ("stay", work, kept_cases, moved_cases)


def mended(plan, period, beats):
    """("mended", times, cases), the times differing from the beats at fewest works, or ("none", cases), or TooMany."""
    # This refuses what is too great; the more works stay, the less there is to go through: so nothing below does.
    word, found = times_or_none(plan, period)
    if word == "none":
        return (word, found)
    times = nearest_times(plan, period, beats)
    works = works_to_tell(plan, beats, times)
    return ("mended", times, stay_cases(plan, period, beats, differing(beats, times), works, (), 0))
