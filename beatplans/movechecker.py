"""The checker of cases that all times differ from beats at so many works: it looks at them and seeks nothing."""

from beatplans.cases import has_shape, look_through, node_fault, split_sides
from beatplans.plans import is_within, windows_of


def differing(one, other):
    """At how many works these two beats differ."""
    return len([work for work in range(len(one)) if one[work] != other[work]])


def stay_fault(plan, stays, moved, work):
    """The word for why this thing isn't a work that neither stays nor is moved, None where it is."""
    if not is_within(work, 0, len(plan[0]) - 1):
        return "work"
    return "work" if work in stays or work in moved else None


def stay_sides(windows, stays, moved, node):
    """The pairs of a stay's kept cases, of its moved ones, and what holds for them."""
    word, work, kept_cases, moved_cases = node
    return [(kept_cases, (windows, stays + (work,), moved)), (moved_cases, (windows, stays, moved + (work,)))]


def move_sides(held, node):
    """The pairs of the cases within this node and what holds for them: windows, works that stay, works moved."""
    windows, stays, moved = held
    if node[0] == "stay":
        return stay_sides(windows, stays, moved, node)
    return [(side, (narrowed, stays, moved)) for side, narrowed in split_sides(windows, node)]


def lets_moved(plan, period, beats, count, thing):
    """True where these are cases that all times differ from these beats at so many works or more, else NoPaper."""
    def fault_of(held, node):
        windows, stays, moved = held
        if has_shape(node, "stay", 4):
            return stay_fault(plan, stays, moved, node[1])
        if has_shape(node, "enough", 1):
            return None if len(moved) >= count else "enough"
        return node_fault(plan, period, beats, stays, windows, node)

    return look_through(thing, (windows_of(plan, period), (), ()), fault_of, move_sides)
