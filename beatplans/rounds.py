"""The rounds by which a plan has times, and the least of them."""

from beatplans.finding import times_or_none


def rounds_there(plan, most):
    """The rising list of the rounds up to the most by which there are times, or TooMany."""
    return [period for period in range(1, most + 1) if times_or_none(plan, period)[0] == "times"]


def least_round(plan, most):
    """(round, times, papers) of the least round by which there are times, None where there is none, or TooMany."""
    papers = ()
    for period in range(1, most + 1):
        word, found = times_or_none(plan, period)
        if word == "times":
            return (period, found, papers)
        papers += (found,)
    return None
