"""Forests of spans: works reached from roots, each by one span, and the rings that the other spans close."""

from beatplans.rings import ends_of


def entries_to(plan, work):
    """The triples (s, way, start) of the entries (s, way) that end at this work, and where they start."""
    found = []
    for s, (word, one, other, low, high) in enumerate(plan[1]):
        if other == work:
            found.append((s, 1, one))
        if one == work:
            found.append((s, -1, other))
    return found


def forest_from(plan, roots):
    """A dict: for each other work that spans join to the roots the entry (s, way) towards them, the nearest first."""
    forest = {}
    reached = list(roots)
    at = 0
    while at < len(reached):
        for s, way, start in entries_to(plan, reached[at]):
            if start not in reached:
                forest[start] = (s, way)
                reached.append(start)
        at += 1
    return forest


def path_to_root(plan, forest, work):
    """The entries from this work to its root, and the root."""
    path = []
    while work in forest:
        path.append(forest[work])
        work = ends_of(plan, forest[work])[1]
    return (path, work)


def closing_ring(plan, forest, s):
    """The ring that span s closes with the forest, by a home where it leads from one root to another."""
    word, one, other, low, high = plan[1][s]
    there, there_root = path_to_root(plan, forest, other)
    back, back_root = path_to_root(plan, forest, one)
    # What both paths share would be gone to and fro, and widen the sums of the ring for nothing.
    while there and back and there[-1] == back[-1]:
        there.pop()
        back.pop()
    homes = [] if there_root == back_root else [("home", there_root, back_root)]
    return tuple([(s, 1)] + there + homes + [(number, -way) for number, way in back[::-1]])


def closing_rings(plan, part, forest):
    """The rings that the spans of this part close, those that aren't of its forest themselves."""
    used = [s for s, way in forest.values()]
    spans = [s for s in range(len(plan[1])) if plan[1][s][1] in part and s not in used]
    return [closing_ring(plan, forest, s) for s in spans]


def beats_along(plan, period, beats, forest, lengths):
    """The beats with each work of the forest moved to where its root and these lengths put it."""
    found = list(beats)
    for work, (s, way) in forest.items():
        nearer = ends_of(plan, (s, way))[1]
        found[work] = (found[nearer] - way * lengths[s]) % period
    return tuple(found)
