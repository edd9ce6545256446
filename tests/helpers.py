"""What the tests share: plain things, plans by seed, and slow reckonings straight from the document."""

from itertools import combinations, product
from random import Random

from beatplans.errors import PlanError, TooMany

FORTY = int("9" * 40)
NAMES = ("a", "bb", "ccc", "dddd", "eeeee", "ffffff", "ggggggg", "hhhhhhhh")


def nested(depth, kind):
    """So many lists, tuples or dicts within one another."""
    thing = None
    for _ in range(depth):
        thing = {"a": thing} if kind == "dict" else [thing] if kind == "list" else (thing,)
    return thing


def plain_things():
    """Plain things of each kind, made anew each time: none is a plan, beats, weights, a ring or cases."""
    few = [
        None, True, False, -1, FORTY, -FORTY, "", " ", "~", "A", "a b", "span", "ring", "home",
        [], {}, [0], [1, 2], ["a"], [["a"], []], [("a",), ()], (None,), (True,), (False, False),
        ("a", 0), ("ring",), ("ring", None), ("ring", []), ("ring", ()), ("split",), ("home", 0, 0),
        ("split", 0, 0, None, None), ["ring", ((0, 1),)], {"a": 1}, {0: {1: [2]}}, {("a", 1): (None, [True])},
        [None, [None, (None, {"x": None})]], ((((),),),), (("a",),), (("a",), (), ()), (("a",), []),
    ]
    return few + [nested(149, kind) for kind in ("list", "tuple", "dict")]


def paths_of(thing, path=()):
    """The paths to all that stands in a tuple, the tuple itself first."""
    yield path
    if isinstance(thing, tuple):
        for at, inner in enumerate(thing):
            yield from paths_of(inner, path + (at,))


def at_path(thing, path):
    """What stands there."""
    for at in path:
        thing = thing[at]
    return thing


def put(thing, path, new):
    """The tuple with another thing there."""
    if not path:
        return new
    at = path[0]
    return thing[:at] + (put(thing[at], path[1:], new),) + thing[at + 1:]


def with_lists(thing):
    """The tuple with a list in the place of a tuple, at each place in turn."""
    for path in paths_of(thing):
        inner = at_path(thing, path)
        if isinstance(inner, tuple):
            yield put(thing, path, list(inner))


def with_truths(thing):
    """The tuple with a truth in the place of a number, at each place in turn: of 0 and 1 the equal one."""
    for path in paths_of(thing):
        inner = at_path(thing, path)
        if isinstance(inner, int):
            yield put(thing, path, inner == 1)
            yield put(thing, path, inner != 1)


def refused(call, *things):
    """The refusal that comes of this call, None where none comes."""
    try:
        call(*things)
    except ValueError as refusal:
        return refusal
    return None


def plan_is_refused(case, many, refusal):
    """The case holds where the refusal is TooMany("plan") and many is true, or there is none and it isn't."""
    case.assertIs(type(refusal), TooMany if many else type(None))
    if many:
        case.assertIsInstance(refusal, PlanError)
        case.assertEqual(refusal.word, "plan")


def some_span(rng, works, most):
    """Any span of so many works."""
    word = rng.choice(("span", "span", "apart"))
    low = rng.randint(0, most)
    high = rng.randint(0, most)
    if word == "span":
        low, high = min(low, high), max(low, high)
    return (word, rng.randrange(works), rng.randrange(works), low, high)


def some_plan(rng, works, spans, most):
    """Any plan with so many works and spans, numbers up to most."""
    return (NAMES[:works], tuple([some_span(rng, works, most) for _ in range(spans)]))


def some_beats(rng, plan, period):
    """Any beats of this plan."""
    return tuple([rng.randrange(period) for _ in plan[0]])


def kept_plan(rng, plan, period, beats, slack):
    """A plan with the works of this one's spans, which these beats keep."""
    spans = []
    for word, one, other, low, high in plan[1]:
        length = slow_length(("span", one, other, low, 0), period, beats)
        if length > 9999:
            length = (beats[other] - beats[one]) % period
            low = 0
        top = min(9999, length + rng.randint(0, slack))
        low = max(low, length - rng.randint(0, slack))
        spans.append(("span", one, other, low, top))
    return (plan[0], tuple(spans))


def slow_length(span, period, beats):
    """The least number from low on that leaves the same as the beats' difference, sought."""
    word, one, other, low, high = span
    asked = (beats[other] - beats[one]) % period
    while low % period != asked:
        low += 1
    return low


def slow_top(span, period):
    """The top, as it is told."""
    return {"span": span[4], "apart": period - span[4]}[span[0]]


def slow_keeps(plan, period, beats):
    """Whether these beats keep all spans."""
    return all(slow_length(span, period, beats) <= slow_top(span, period) for span in plan[1])


def slow_windows(plan, period):
    """The windows, as they are told."""
    return tuple([(span[3], min(slow_top(span, period), span[3] + period - 1)) for span in plan[1]])


def slow_is_whole(thing):
    """Whether it is just an int."""
    return type(thing) is int


def slow_is_ring(plan, stays, thing):
    """Whether it is a ring, walked from work to work."""
    if type(thing) is not tuple or not 0 < len(thing) < 61:
        return False
    walk = []
    for entry in thing:
        if type(entry) is not tuple or len(entry) not in (2, 3):
            return False
        if not all(slow_is_whole(number) for number in entry[len(entry) - 2:]):
            return False
        if len(entry) == 3:
            if entry[0] != "home" or entry[1] not in stays or entry[2] not in stays:
                return False
            walk.append(entry[1:])
            continue
        if entry[0] not in range(len(plan[1])) or entry[1] not in (1, -1):
            return False
        ends = plan[1][entry[0]][1:3]
        walk.append(ends[::entry[1]])
    return all(ahead[1] == behind[0] for ahead, behind in zip(walk, walk[1:] + walk[:1]))


def slow_sums(beats, windows, ring):
    """The sums, entry by entry."""
    least = most = 0
    for entry in ring:
        if entry[0] == "home":
            least += beats[entry[2]] - beats[entry[1]]
            most += beats[entry[2]] - beats[entry[1]]
        elif entry[1] == 1:
            least += windows[entry[0]][0]
            most += windows[entry[0]][1]
        else:
            least -= windows[entry[0]][1]
            most -= windows[entry[0]][0]
    return (least, most)


def slow_bars(period, beats, windows, ring):
    """Whether the least whole number of rounds that is at least the least is above the most."""
    least, most = slow_sums(beats, windows, ring)
    return least + (-least) % period > most


def slow_parts(plan):
    """The parts, joined until nothing changes any more."""
    mark = list(range(len(plan[0])))
    for _ in plan[0]:
        for _, one, other, _, _ in plan[1]:
            mark[one] = mark[other] = min(mark[one], mark[other])
    return tuple([
        tuple([work for work in range(len(mark)) if mark[work] == first])
        for first in sorted(set(mark))
    ])


def slow_size(plan, period, stays):
    """The size, as it is told."""
    free = [part for part in slow_parts(plan) if not set(part) & set(stays)]
    return period ** (len(plan[0]) - len(stays) - len(free))


def slow_times(plan, period, beats, stays):
    """Some times that have these works at these beats, None where there are none: all are gone through.

    A part without stays is gone through with its first work at beat 0 alone: moved by one number,
    its times are times again. Each part is gone through by itself, as no span joins two.
    """
    found = [0] * len(plan[0])
    for part in slow_parts(plan):
        spans = tuple([span for span in plan[1] if span[1] in part])
        fixed = [work for work in part if work in stays] or [part[0]]
        choice = [
            ([beats[work]] if work in stays else [0]) if work in fixed else range(period) for work in part
        ]
        for row in product(*choice):
            for work, beat in zip(part, row):
                found[work] = beat
            if slow_keeps((plan[0], spans), period, found):
                break
        else:
            return None
    return tuple(found)


def all_beats(plan, period):
    """All beats of the plan."""
    return product(range(period), repeat=len(plan[0]))


def split_windows(windows, s, cut):
    """The windows of the lower side and of the upper one."""
    least, most = windows[s]
    return (
        windows[:s] + ((least, cut),) + windows[s + 1:],
        windows[:s] + ((cut + 1, most),) + windows[s + 1:],
    )


def places_within(node):
    """The places of the cases within a right node."""
    return {"split": (3, 4), "stay": (2, 3)}.get(node[0], ())


def node_paths(cases, path=()):
    """The paths to all nodes, in the order of their numbers."""
    yield path
    for at in places_within(cases):
        yield from node_paths(cases[at], path + (at,))


def nodes_of(cases):
    """How many nodes cases have."""
    return 1 + sum(nodes_of(cases[at]) for at in places_within(cases))


def depth_of(cases):
    """How many nodes stand within one another."""
    return 1 + max([depth_of(cases[at]) for at in places_within(cases)], default=0)


def shape_of(node):
    """How many things a node has and the first of them; None where it is no tuple or begins otherwise."""
    return (len(node), node[0]) if type(node) is tuple and node and type(node[0]) is str else None


def slow_ring_word(plan, period, beats, stays, windows, ring):
    """The word for why this is no ring that bars, None where it is one."""
    if not slow_is_ring(plan, stays, ring):
        return "ring"
    return None if slow_bars(period, beats, windows, ring) else "bar"


def slow_split_word(plan, windows, node):
    """The word for what is wrong with a split, None where nothing is."""
    _, s, cut, _, _ = node
    if not slow_is_whole(s) or s not in range(len(plan[1])):
        return "span"
    return None if slow_is_whole(cut) and cut in range(*windows[s]) else "cut"


def slow_fault(plan, period, beats, stays, thing, price_word=None):
    """The word and the number of the first node that isn't as told, None where all are.

    Ends with prices are right where price_word is handed in and tells None of the windows and the prices there.
    """
    at = [0]

    def look(node, windows):
        number = at[0]
        at[0] += 1
        shape = shape_of(node)
        if shape == (2, "ring"):
            word = slow_ring_word(plan, period, beats, stays, windows, node[1])
        elif shape == (2, "prices") and price_word:
            word = price_word(windows, node[1])
        elif shape == (5, "split"):
            word = slow_split_word(plan, windows, node)
            if word is None:
                under, above = split_windows(windows, node[1], node[2])
                return look(node[3], under) or look(node[4], above)
        else:
            word = "shape"
        return word and (word, number)

    return look(thing, slow_windows(plan, period))


def some_rings(rng, plan, stays):
    """Rings of this plan of up to four entries."""
    steps = []
    for s, (_, one, other, _, _) in enumerate(plan[1]):
        steps += [((s, 1), one, other), ((s, -1), other, one)]
    steps += [(("home", one, other), one, other) for one in stays for other in stays]
    rings = []
    for many in (1, 2, 3, 4):
        for _ in range(60):
            row = [rng.choice(steps)] if steps else []
            while row and len(row) < many:
                row.append(rng.choice([step for step in steps if step[1] == row[-1][2]] or steps))
            if row and all(row[at - 1][2] == row[at][1] for at in range(len(row))):
                rings.append(tuple([step[0] for step in row]))
    return rings


def line(works, joined):
    """A plan whose first works are joined one to the next, the others alone."""
    return (NAMES[:works], tuple([("span", work, work + 1, 0, 9999) for work in range(joined - 1)]))


def tracks(works, hold):
    """A plan of works that each hold one single track."""
    return (NAMES[:works], tuple([("apart", one, other, hold, hold) for one, other in combinations(range(works), 2)]))


def forbidding(period, holes, rounds):
    """A plan of two works: each span forbids the lengths of one hole (first, last) and lets all others be."""
    spans = []
    for first, last in holes:
        low = last + 1 + rounds * period
        spans.append(("span", 0, 1, low, low + period - 1 - (last + 1 - first)))
    return (NAMES[:2], tuple(spans))


def random_small(rng):
    """Any plan whose size is small enough, with a round, beats and stays."""
    while True:
        period = rng.choice((1, 2, 3, 4, 5, 6, 8, 12, 17, 100, 300, 600))
        most = min(9999, rng.choice((period, 2 * period, 4 * period, 9999)))
        plan = some_plan(rng, rng.randint(1, 8), rng.randint(0, rng.choice((3, 8, 24))), most)
        if rng.random() < 0.6:
            plan = kept_plan(rng, plan, period, some_beats(rng, plan, period), rng.choice((0, 1, period)))
        if rng.random() < 0.5 and len(plan[1]) in range(1, 24):
            one = some_span(rng, len(plan[0]), most)
            plan = (plan[0], plan[1] + (one,))
        stays = tuple([work for work in range(len(plan[0])) if rng.random() < rng.choice((0, 0.3, 0.8, 1))])
        if slow_size(plan, period, stays) <= 300:
            return (plan, period, some_beats(rng, plan, period), stays)


def free_small(rng):
    """Any plan whose size without stays is small enough, with a round."""
    while True:
        plan, period, _, stays = random_small(rng)
        if slow_size(plan, period, ()) <= 300:
            return (plan, period)


def first_rows(plan, period):
    """All beats with the first work of each part at beat 0."""
    firsts = [part[0] for part in slow_parts(plan)]
    return product(*[range(1 if work in firsts else period) for work in range(len(plan[0]))])


def slow_all_times(plan, period):
    """All times with the first work of each part at beat 0."""
    return [row for row in first_rows(plan, period) if slow_keeps(plan, period, row)]


def slow_waits(plan, period, weights, beats):
    """The waits, span by span."""
    return sum(weight * (slow_length(span, period, beats) - span[3]) for weight, span in zip(weights, plan[1]))


def slow_are_prices(plan, thing):
    """Whether it is prices of this plan."""
    return type(thing) is tuple and len(thing) < 25 and all(
        type(pair) is tuple and len(pair) == 2 and slow_is_whole(pair[0]) and 0 < pair[0] < 1000
        and slow_is_ring(plan, (), pair[1])
        for pair in thing
    )


def slow_shown(plan, period, weights, windows, prices):
    """What prices show by windows, as it is told."""
    shown = 0
    for s, span in enumerate(plan[1]):
        left = weights[s]
        for price, ring in prices:
            left -= price * (ring.count((s, 1)) - ring.count((s, -1)))
        shown += left * (windows[s][0 if left >= 0 else 1] - span[3])
    for price, ring in prices:
        least = slow_sums((), windows, ring)[0]
        at_least = least + (-least) % period
        shown += price * at_least
        for s, way in ring:
            shown -= price * way * plan[1][s][3]
    return shown


def some_weights(rng, plan):
    """Any weights of this plan."""
    return tuple([rng.choice((0, 0, 1, 99, rng.randint(0, 99))) for _ in plan[1]])


def some_prices(rng, rings):
    """Any prices with these rings."""
    many = rng.choice((0, 1, 1, 2, 3, 24)) if rings else 0
    return tuple([(rng.choice((1, 2, 999, rng.randint(1, 120))), rng.choice(rings)) for _ in range(many)])


def slow_differing(one, other):
    """At how many works two beats differ."""
    return sum(map(int.__ne__, one, other))


def slow_fewest(plan, period, beats):
    """At how many works times differ from these beats at least, None where there are none.

    Each part is gone through by itself: all its times with the first work at beat 0, moved by all numbers.
    """
    fewest = 0
    for part in slow_parts(plan):
        spans = tuple([span for span in plan[1] if span[1] in part])
        counts = []
        for row in product(*[range(1 if work == part[0] else period) for work in part]):
            found = [0] * len(plan[0])
            for work, beat in zip(part, row):
                found[work] = beat
            if slow_keeps((plan[0], spans), period, found):
                for by in range(period):
                    counts.append(sum((found[work] + by) % period != beats[work] for work in part))
        if not counts:
            return None
        fewest += min(counts)
    return fewest


def slow_buffer(span, period, beats):
    """The buffer, as it is told."""
    return slow_length(span, period, beats) - span[3]


def slow_step(span, period, beats):
    """The step, counted round by round."""
    ahead = beats[span[1]] + slow_length(span, period, beats)
    step = 0
    while beats[span[2]] + step * period < ahead:
        step += 1
    return step


def slow_late_bounds(plan, period, beats, waiting, many):
    """All (turn, one, later, other, buffer): other at the later turn is as late as one at the turn, less the buffer."""
    for s in waiting:
        span = plan[1][s]
        step = slow_step(span, period, beats)
        for turn in range(many):
            if turn + step < many:
                yield (turn, span[1], turn + step, span[2], slow_buffer(span, period, beats))


def slow_lateness(plan, period, beats, waiting, given, many):
    """The lateness: of all that is late and not told yet the latest is told next, and hands on what it has to."""
    bounds = list(slow_late_bounds(plan, period, beats, waiting, many))
    late = {}
    for work, turn, number in given:
        late[turn, work] = max(number, late.get((turn, work), 0))
    told = {}
    while late:
        place = max(late, key=late.get)
        told[place] = late.pop(place)
        for turn, one, later, other, buffer in bounds:
            if (turn, one) == place and (later, other) not in told:
                late[later, other] = max(told[place] - buffer, late.get((later, other), 0))
    return tuple([tuple([told.get((turn, work), 0) for work in range(len(plan[0]))]) for turn in range(many)])


def late_numbers(table):
    """The (turn, work, number) of all numbers above 0, turn by turn, work by work."""
    return [
        (turn, work, number) for turn, row in enumerate(table) for work, number in enumerate(row) if number > 0
    ]


def slow_is_chain(plan, period, beats, waiting, given, number, thing):
    """Whether it is a chain that leads to this (turn, work, number), gone along."""
    if type(thing) is not tuple or len(thing) != 2:
        return False
    g, row = thing
    if not slow_is_whole(g) or g not in range(len(given)) or type(row) is not tuple or len(row) > 100:
        return False
    work, turn, late = given[g]
    for s in row:
        if not slow_is_whole(s) or s not in waiting:
            return False
        span = plan[1][s]
        if span[1] != work:
            return False
        turn, work, late = turn + slow_step(span, period, beats), span[2], late - slow_buffer(span, period, beats)
    return (turn, work, late) == number


def some_late(rng):
    """Any plan, round, beats, waiting, given and many."""
    period = rng.choice((1, 2, 3, 5, 12, 60, 600))
    works = rng.randint(1, 8)
    plan = some_plan(rng, works, rng.randint(0, rng.choice((2, 6, 24))), min(9999, rng.choice((1, 1, 2, 4, 13)) * period))
    beats = some_beats(rng, plan, period)
    if rng.random() < 0.6:
        plan = kept_plan(rng, plan, period, beats, rng.choice((0, 0, 1, period)))
    chance = rng.choice((0, 0.5, 0.9, 1, 1))
    waiting = tuple([s for s in range(len(plan[1])) if rng.random() < chance])
    many = rng.choice((1, 2, 3, 12, rng.randint(1, 12)))
    given = tuple([
        (rng.randrange(works), rng.randrange(rng.choice((1, many))), rng.choice((0, 1, 2, 9, 999, rng.randint(0, 999))))
        for _ in range(rng.choice((0, 1, 1, 2, 3, 12)))
    ])
    return (plan, period, beats, waiting, given, many)


def changed_lines(rng, lines, row, word):
    """The lines with something changed in this row: a word out, twice, exchanged, another one, one more; a sign; the line itself."""
    line = lines[row]
    words = line.split(" ")
    at = rng.randrange(len(words))
    other = rng.randrange(len(words))
    place = rng.randint(0, len(line))
    sign = rng.choice("abz09 -+A~.;")
    exchanged = list(words)
    exchanged[at], exchanged[other] = words[other], words[at]
    news = [
        words[:at] + words[at + 1:], words[:at] + [words[at]] + words[at:], exchanged, words[:at] + [word] + words[at + 1:],
        words[:at] + [word] + words[at:], words + [word], words[:at] + ["0" + words[at]] + words[at + 1:],
        [line[:place] + sign + line[place:]], [line[:place] + line[place + 1:]], [line[:place] + sign + line[place + 1:]],
        ["", line], [line, ""],
    ]
    for new in news:
        yield lines[:row] + [" ".join(new)] + lines[row + 1:]
    yield lines[:row] + lines[row + 1:]
    yield lines[:row] + [line] + lines[row:]
    yield lines[:row] + [""] + lines[row:]
    swap = rng.randrange(len(lines))
    turned = list(lines)
    turned[row], turned[swap] = lines[swap], lines[row]
    yield turned


def seeded(word):
    """A source of numbers that tells the same each time."""
    return Random(word)
