"""Plans laid together, the beats of one of them, and works moved among others that stay."""

from beatplans.errors import TooMany
from beatplans.plans import MOST_NAMES, MOST_SPANS, unkept


def names_together(one, other):
    """The names of the one plan, then those of the other that the one hasn't."""
    return one[0] + tuple([name for name in other[0] if name not in one[0]])


def laid_together(one, other):
    """The plan of the works and spans of both plans, works of one name being one work, or TooMany."""
    names = names_together(one, other)
    if len(names) > MOST_NAMES:
        raise TooMany("names")
    if len(one[1]) + len(other[1]) > MOST_SPANS:
        raise TooMany("spans")
    works = [names.index(name) for name in other[0]]
    spans = [(word, works[start], works[end], low, high) for word, start, end, low, high in other[1]]
    return (names, one[1] + tuple(spans))


def beats_of(one, other, beats, side):
    """The beats of the one plan (side 0) or the other one (side 1), out of beats of both laid together."""
    names = names_together(one, other)
    own = other[0] if side else one[0]
    return tuple([beats[names.index(name)] for name in own])


def some_shifted(period, beats, works, by):
    """The beats with these works moved by this number, the others as they are."""
    return tuple([(beat + by) % period if work in works else beat for work, beat in enumerate(beats)])


def shifts_of(plan, period, beats, works):
    """The rising list of the numbers by which these works, moved alone, come to beats that keep all spans."""
    return [by for by in range(period) if unkept(plan, period, some_shifted(period, beats, works, by)) is None]
