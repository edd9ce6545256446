"""The checker of cases that no beats keep all spans: it looks at them and seeks nothing."""

from beatplans.errors import NoPaper
from beatplans.plans import is_within, windows_of, with_window
from beatplans.rings import is_ring, ring_bars


def has_shape(node, word, many):
    """Whether this node is a tuple of so many things with this word first."""
    return isinstance(node, tuple) and len(node) == many and node[0] == word


def split_fault(plan, windows, node):
    """The word for what is wrong with this split by these windows, None where nothing is."""
    word, s, cut, lower, upper = node
    if not is_within(s, 0, len(plan[1]) - 1):
        return "span"
    least, most = windows[s]
    return None if is_within(cut, least, most - 1) else "cut"


def ring_fault(plan, period, beats, stays, windows, ring):
    """The word for why this thing isn't a ring that bars by these windows, None where it is."""
    if not is_ring(plan, stays, ring):
        return "ring"
    return None if ring_bars(plan, period, beats, windows, ring) else "bar"


def node_fault(plan, period, beats, stays, windows, node):
    """The word for what is wrong with this node, those within it not looked at; None where nothing is."""
    if has_shape(node, "ring", 2):
        return ring_fault(plan, period, beats, stays, windows, node[1])
    if has_shape(node, "split", 5):
        return split_fault(plan, windows, node)
    return "shape"


def split_sides(windows, node):
    """The pairs of cases and their windows: those of the lower cases of this split, those of its upper ones."""
    word, s, cut, lower, upper = node
    least, most = windows[s]
    return ((lower, with_window(windows, s, (least, cut))), (upper, with_window(windows, s, (cut + 1, most))))


def lets_none_with(plan, period, beats, stays, thing):
    """True where these are cases that no times of the plan have these works at these beats, else NoPaper."""
    # The nodes wait on a list, the next one last: so they may stand within one another as deep as they like.
    waiting = [(thing, windows_of(plan, period))]
    at = 0
    while waiting:
        node, windows = waiting.pop()
        word = node_fault(plan, period, beats, stays, windows, node)
        if word is not None:
            raise NoPaper(word, at)
        if node[0] == "split":
            waiting.extend(split_sides(windows, node)[::-1])
        at += 1
    return True


def lets_none(plan, period, thing):
    """True where these are cases that the plan has no times by this round, else NoPaper."""
    return lets_none_with(plan, period, (), (), thing)
