"""What the tests share: plain things, plans by seed, and slow reckonings straight from the document."""

from itertools import product
from random import Random

FORTY = int("9" * 40)
NAMES = ("a", "bb", "ccc", "dddd", "eeeee", "ffffff", "ggggggg", "hhhhhhhh")


def nested(depth, kind):
    """So many lists, tuples or dicts within one another."""
    thing = None
    for _ in range(depth):
        thing = {"a": thing} if kind == "dict" else [thing] if kind == "list" else (thing,)
    return thing


def plain_things():
    """Plain things of each kind, made anew each time: none is a plan, beats, weights, a ring or cases."""
    few = [
        None, True, False, -1, FORTY, -FORTY, "", " ", "~", "A", "a b", "span", "ring", "home",
        [], {}, [0], [1, 2], ["a"], [["a"], []], [("a",), ()], (None,), (True,), (False, False),
        ("a", 0), ("ring",), ("ring", None), ("ring", []), ("ring", ()), ("split",), ("home", 0, 0),
        ("split", 0, 0, None, None), ["ring", ((0, 1),)], {"a": 1}, {0: {1: [2]}}, {("a", 1): (None, [True])},
        [None, [None, (None, {"x": None})]], ((((),),),), (("a",),), (("a",), (), ()), (("a",), []),
    ]
    return few + [nested(149, kind) for kind in ("list", "tuple", "dict")]


def paths_of(thing, path=()):
    """The paths to all that stands in a tuple, the tuple itself first."""
    yield path
    if isinstance(thing, tuple):
        for at, inner in enumerate(thing):
            yield from paths_of(inner, path + (at,))


def at_path(thing, path):
    """What stands there."""
    for at in path:
        thing = thing[at]
    return thing


def put(thing, path, new):
    """The tuple with another thing there."""
    if not path:
        return new
    at = path[0]
    return thing[:at] + (put(thing[at], path[1:], new),) + thing[at + 1:]


def with_lists(thing):
    """The tuple with a list in the place of a tuple, at each place in turn."""
    for path in paths_of(thing):
        inner = at_path(thing, path)
        if isinstance(inner, tuple):
            yield put(thing, path, list(inner))


def with_truths(thing):
    """The tuple with a truth in the place of a number, at each place in turn: of 0 and 1 the equal one."""
    for path in paths_of(thing):
        inner = at_path(thing, path)
        if isinstance(inner, int):
            yield put(thing, path, inner == 1)
            yield put(thing, path, inner != 1)


def refused(call, *things):
    """The refusal that comes of this call, None where none comes."""
    try:
        call(*things)
    except ValueError as refusal:
        return refusal
    return None


def some_span(rng, works, most):
    """Any span of so many works."""
    word = rng.choice(("span", "span", "apart"))
    low = rng.randint(0, most)
    high = rng.randint(0, most)
    if word == "span":
        low, high = min(low, high), max(low, high)
    return (word, rng.randrange(works), rng.randrange(works), low, high)


def some_plan(rng, works, spans, most):
    """Any plan with so many works and spans, numbers up to most."""
    return (NAMES[:works], tuple([some_span(rng, works, most) for _ in range(spans)]))


def some_beats(rng, plan, period):
    """Any beats of this plan."""
    return tuple([rng.randrange(period) for _ in plan[0]])


def kept_plan(rng, plan, period, beats, slack):
    """A plan with the works of this one's spans, which these beats keep."""
    spans = []
    for word, one, other, low, high in plan[1]:
        length = slow_length(("span", one, other, low, 0), period, beats)
        if length > 9999:
            length = (beats[other] - beats[one]) % period
            low = 0
        top = min(9999, length + rng.randint(0, slack))
        low = max(low, length - rng.randint(0, slack))
        spans.append(("span", one, other, low, top))
    return (plan[0], tuple(spans))


def slow_length(span, period, beats):
    """The least number from low on that leaves the same as the beats' difference, sought."""
    word, one, other, low, high = span
    asked = (beats[other] - beats[one]) % period
    while low % period != asked:
        low += 1
    return low


def slow_top(span, period):
    """The top, as it is told."""
    return {"span": span[4], "apart": period - span[4]}[span[0]]


def slow_keeps(plan, period, beats):
    """Whether these beats keep all spans."""
    return all(slow_length(span, period, beats) <= slow_top(span, period) for span in plan[1])


def slow_windows(plan, period):
    """The windows, as they are told."""
    return tuple([(span[3], min(slow_top(span, period), span[3] + period - 1)) for span in plan[1]])


def slow_is_whole(thing):
    """Whether it is just an int."""
    return type(thing) is int


def slow_is_ring(plan, stays, thing):
    """Whether it is a ring, walked from work to work."""
    if type(thing) is not tuple or not 0 < len(thing) < 61:
        return False
    walk = []
    for entry in thing:
        if type(entry) is not tuple or len(entry) not in (2, 3):
            return False
        if not all(slow_is_whole(number) for number in entry[len(entry) - 2:]):
            return False
        if len(entry) == 3:
            if entry[0] != "home" or entry[1] not in stays or entry[2] not in stays:
                return False
            walk.append(entry[1:])
            continue
        if entry[0] not in range(len(plan[1])) or entry[1] not in (1, -1):
            return False
        ends = plan[1][entry[0]][1:3]
        walk.append(ends[::entry[1]])
    return all(ahead[1] == behind[0] for ahead, behind in zip(walk, walk[1:] + walk[:1]))


def slow_sums(beats, windows, ring):
    """The sums, entry by entry."""
    least = most = 0
    for entry in ring:
        if entry[0] == "home":
            least += beats[entry[2]] - beats[entry[1]]
            most += beats[entry[2]] - beats[entry[1]]
        elif entry[1] == 1:
            least += windows[entry[0]][0]
            most += windows[entry[0]][1]
        else:
            least -= windows[entry[0]][1]
            most -= windows[entry[0]][0]
    return (least, most)


def slow_bars(period, beats, windows, ring):
    """Whether the least whole number of rounds that is at least the least is above the most."""
    least, most = slow_sums(beats, windows, ring)
    return least + (-least) % period > most


def slow_parts(plan):
    """The parts, joined until nothing changes any more."""
    mark = list(range(len(plan[0])))
    for _ in plan[0]:
        for _, one, other, _, _ in plan[1]:
            mark[one] = mark[other] = min(mark[one], mark[other])
    return tuple([
        tuple([work for work in range(len(mark)) if mark[work] == first])
        for first in sorted(set(mark))
    ])


def slow_size(plan, period, stays):
    """The size, as it is told."""
    free = [part for part in slow_parts(plan) if not set(part) & set(stays)]
    return period ** (len(plan[0]) - len(stays) - len(free))


def slow_times(plan, period, beats, stays):
    """Some times that have these works at these beats, None where there are none: all are gone through.

    A part without stays is gone through with its first work at beat 0 alone: moved by one number,
    its times are times again. Each part is gone through by itself, as no span joins two.
    """
    found = [0] * len(plan[0])
    for part in slow_parts(plan):
        spans = tuple([span for span in plan[1] if span[1] in part])
        fixed = [work for work in part if work in stays] or [part[0]]
        choice = [
            ([beats[work]] if work in stays else [0]) if work in fixed else range(period) for work in part
        ]
        for row in product(*choice):
            for work, beat in zip(part, row):
                found[work] = beat
            if slow_keeps((plan[0], spans), period, found):
                break
        else:
            return None
    return tuple(found)


def all_beats(plan, period):
    """All beats of the plan."""
    return product(range(period), repeat=len(plan[0]))


def nodes_of(cases):
    """How many nodes cases have."""
    return 1 + (nodes_of(cases[3]) + nodes_of(cases[4]) if cases[0] == "split" else 0)


def depth_of(cases):
    """How many nodes stand within one another."""
    return 1 + (max(depth_of(cases[3]), depth_of(cases[4])) if cases[0] == "split" else 0)


def slow_fault(plan, period, beats, stays, thing):
    """The word and the number of the first node that isn't as told, None where all are."""
    at = [0]

    def look(node, windows):
        number = at[0]
        at[0] += 1
        if type(node) is not tuple or (len(node), node[:1]) not in ((2, ("ring",)), (5, ("split",))):
            return ("shape", number)
        if len(node) == 2:
            if not slow_is_ring(plan, stays, node[1]):
                return ("ring", number)
            return None if slow_bars(period, beats, windows, node[1]) else ("bar", number)
        _, s, cut, lower, upper = node
        if not slow_is_whole(s) or s not in range(len(plan[1])):
            return ("span", number)
        least, most = windows[s]
        if not slow_is_whole(cut) or cut not in range(least, most):
            return ("cut", number)
        under = windows[:s] + ((least, cut),) + windows[s + 1:]
        above = windows[:s] + ((cut + 1, most),) + windows[s + 1:]
        return look(lower, under) or look(upper, above)

    return look(thing, slow_windows(plan, period))


def seeded(word):
    """A source of numbers that tells the same each time."""
    return Random(word)
