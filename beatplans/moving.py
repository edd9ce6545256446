"""Beats and plans moved: shifted, walked, turned about, many-fold, divided, changed in a span."""

from beatplans.errors import TooMany
from beatplans.plans import MOST_BEATS


def shifted(period, beats, by):
    """The beats, each more by this number, within the round."""
    return tuple([(beat + by) % period for beat in beats])


def walked(period, beats, many):
    """The rising list of pairs (beat, work) over so many rounds."""
    return sorted([(beat + turn * period, work) for turn in range(many) for work, beat in enumerate(beats)])


def plan_turned(plan):
    """The plan with one and other exchanged in each span."""
    names, spans = plan
    return (names, tuple([(word, other, one, low, high) for word, one, other, low, high in spans]))


def beats_turned(period, beats):
    """The beats counted from the round's end."""
    return tuple([(period - beat) % period for beat in beats])


def plan_many(plan, many):
    """The plan with all lows and highs so many times."""
    names, spans = plan
    if any([max(low, high) * many > MOST_BEATS for word, one, other, low, high in spans]):
        raise TooMany("span")
    return (names, tuple([(word, one, other, low * many, high * many) for word, one, other, low, high in spans]))


def beats_many(beats, many):
    """The beats so many times."""
    return tuple([beat * many for beat in beats])


def beats_divided(beats, many):
    """The beats divided, without what is left."""
    return tuple([beat // many for beat in beats])


def changed(plan, s, span):
    """The plan with this span in the place of span s."""
    names, spans = plan
    return (names, spans[:s] + (span,) + spans[s + 1:])


def narrowed(plan, s, length):
    """The plan with span s narrowed to one length."""
    word, one, other, low, high = plan[1][s]
    return changed(plan, s, ("span", one, other, length, length))
