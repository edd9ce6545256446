"""The checker of least rounds: it looks at what is said to show one, and seeks nothing."""

from beatplans.errors import NoPaper
from beatplans.nonechecker import lets_none
from beatplans.plans import are_beats, is_round, unkept


def is_round_paper(thing):
    """Whether it is a triple of a round, any thing, and a tuple of one thing fewer than the round."""
    if not (isinstance(thing, tuple) and len(thing) == 3):
        return False
    period, times, papers = thing
    return is_round(period) and isinstance(papers, tuple) and len(papers) == period - 1


def are_times(plan, period, thing):
    """Whether it is beats of this plan by this round that keep all spans."""
    return are_beats(plan, period, thing) and unkept(plan, period, thing) is None


def shows_none(plan, period, thing):
    """Whether these are cases that the plan has no times by this round."""
    try:
        return lets_none(plan, period, thing)
    except NoPaper:
        return False


def lets_round(plan, thing):
    """True where this shows the least round by which the plan has times, else NoPaper."""
    if not is_round_paper(thing):
        raise NoPaper("shape", 0)
    period, times, papers = thing
    if not are_times(plan, period, times):
        raise NoPaper("times", 0)
    for k in range(1, period):
        if not shows_none(plan, k, papers[k - 1]):
            raise NoPaper("paper", k)
    return True
