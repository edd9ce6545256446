"""Cases looked at node by node: what all checkers of cases share. It seeks nothing."""

from beatplans.errors import NoPaper
from beatplans.plans import is_within, with_window
from beatplans.rings import is_ring, ring_bars


def has_shape(node, word, many):
    """Whether this node is a tuple of so many things with this word first."""
    return isinstance(node, tuple) and len(node) == many and node[0] == word


def split_fault(plan, windows, node):
    """The word for what is wrong with this split by these windows, None where nothing is."""
    word, s, cut, lower, upper = node
    if not is_within(s, 0, len(plan[1]) - 1):
        return "span"
    least, most = windows[s]
    return None if is_within(cut, least, most - 1) else "cut"


def ring_fault(plan, period, beats, stays, windows, ring):
    """The word for why this thing isn't a ring that bars by these windows, None where it is."""
    if not is_ring(plan, stays, ring):
        return "ring"
    return None if ring_bars(plan, period, beats, windows, ring) else "bar"


def node_fault(plan, period, beats, stays, windows, node):
    """The word for what is wrong with this ring or split, the nodes within not looked at; None where nothing is."""
    if has_shape(node, "ring", 2):
        return ring_fault(plan, period, beats, stays, windows, node[1])
    if has_shape(node, "split", 5):
        return split_fault(plan, windows, node)
    return "shape"


def split_sides(windows, node):
    """The pairs of cases within this node and their windows: a split's lower ones, its upper ones; else none."""
    if node[0] != "split":
        return []
    word, s, cut, lower, upper = node
    least, most = windows[s]
    return [(lower, with_window(windows, s, (least, cut))), (upper, with_window(windows, s, (cut + 1, most)))]


def look_through(thing, start, fault_of, sides_of):
    """True where no node has a fault, else NoPaper at the first that has one.

    With each node goes what holds there, at first start: fault_of(held, node) tells a word or None,
    sides_of(held, node) the pairs of the cases within a node without fault and what holds for them.
    """
    # The nodes wait on a list, the next one last: so they may stand within one another as deep as they like.
    waiting = [(thing, start)]
    at = 0
    while waiting:
        node, held = waiting.pop()
        word = fault_of(held, node)
        if word is not None:
            raise NoPaper(word, at)
        waiting.extend(sides_of(held, node)[::-1])
        at += 1
    return True
