"""All times of a plan, but for moving its parts, and the lengths that come of them."""

from beatplans.finding import refuse_great
from beatplans.joining import parts_of
from beatplans.plans import length_of, unkept


def rows_to_try(plan, period):
    """All beats with the first work of each part at beat 0, rising."""
    firsts = [part[0] for part in parts_of(plan)]
    rows = [()]
    for work in range(len(plan[0])):
        many = 1 if work in firsts else period
        rows = [row + (beat,) for row in rows for beat in range(many)]
    return rows


def all_times(plan, period):
    """The rising list of all times with the first work of each part at beat 0, or TooMany."""
    refuse_great(plan, period, ())
    return [row for row in rows_to_try(plan, period) if unkept(plan, period, row) is None]


def lengths_there(plan, period, s):
    """The rising list of the lengths that span s has by some times, each once, or TooMany."""
    # Moving a part changes no length: the times with the first works at 0 have all lengths that there are.
    return sorted(set([length_of(plan, period, times, s) for times in all_times(plan, period)]))
