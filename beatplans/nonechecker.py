"""The checker of cases that no beats keep all spans: it looks at them and seeks nothing."""

from beatplans.cases import look_through, node_fault, split_sides
from beatplans.plans import windows_of


def lets_none_with(plan, period, beats, stays, thing):
    """True where these are cases that no times of the plan have these works at these beats, else NoPaper."""
    def fault_of(windows, node):
        return node_fault(plan, period, beats, stays, windows, node)

    return look_through(thing, windows_of(plan, period), fault_of, split_sides)


def lets_none(plan, period, thing):
    """True where these are cases that the plan has no times by this round, else NoPaper."""
    return lets_none_with(plan, period, (), (), thing)
