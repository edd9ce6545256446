"""[25], [5] At how many works beats differ; the checker of cases of moving."""

import unittest

from beatplans.errors import NoPaper, PlanError
from beatplans.movechecker import differing, lets_moved
from tests.helpers import (
    FORTY, NAMES, all_beats, at_path, depth_of, kept_plan, node_paths, nodes_of, paths_of, plain_things, put, refused, seeded,
    shape_of, slow_bars, slow_is_whole, slow_keeps, slow_ring_word, slow_split_word, slow_windows, some_beats, some_plan,
    some_rings, split_windows, with_lists, with_truths,
)

# b stands 2 to 5 behind a, c 2 to 5 behind b: of beats that all are alike two at least are moved.
ROW = (("a", "b", "c"), (("span", 0, 1, 2, 5), ("span", 1, 2, 2, 5)))
ALIKE = (0, 0, 0)
ENOUGH = ("enough",)
AB = ("ring", ((0, 1), ("home", 1, 0)))
BC = ("ring", ((1, 1), ("home", 2, 1)))
AC = ("ring", ((0, 1), (1, 1), ("home", 2, 0)))
TWO = (
    "stay", 1,
    ("stay", 0, AB, ("stay", 2, BC, ENOUGH)),
    ("stay", 0, ("stay", 2, AC, ENOUGH), ENOUGH),
)

# No times at all: BARS is right at the end of any way.
VAIN = (NAMES, (("span", 0, 1, 0, 49), ("span", 0, 1, 50, 99), ("span", 0, 1, 0, 99)))
BARS = ("ring", ((0, 1), (1, -1)))
ZEROS = (0,) * 8


def all_moved(works, end):
    """Cases by which these works are moved one after another, ahead of the end."""
    cases = end
    for work in reversed(works):
        cases = ("stay", work, BARS, cases)
    return cases


def all_kept(works, end):
    """Cases by which these works stay one after another, ahead of the end."""
    cases = end
    for work in reversed(works):
        cases = ("stay", work, cases, BARS)
    return cases


def slow_move_fault(plan, period, beats, count, thing):
    """The word and the number of the first node that isn't as told, None where all are."""
    at = [0]

    def word_of(node, windows, kept, moved):
        shape = shape_of(node)
        if shape == (2, "ring"):
            return slow_ring_word(plan, period, beats, kept, windows, node[1])
        if shape == (5, "split"):
            return slow_split_word(plan, windows, node)
        if shape == (4, "stay"):
            free = set(range(len(plan[0]))) - set(kept + moved)
            return None if slow_is_whole(node[1]) and node[1] in free else "work"
        if shape == (1, "enough"):
            return "enough" if len(moved) < count else None
        return "shape"

    def look(node, windows, kept, moved):
        number = at[0]
        at[0] += 1
        word = word_of(node, windows, kept, moved)
        if word:
            return (word, number)
        if node[0] == "split":
            under, above = split_windows(windows, node[1], node[2])
            return look(node[3], under, kept, moved) or look(node[4], above, kept, moved)
        if node[0] == "stay":
            return look(node[2], windows, kept + [node[1]], moved) or look(node[3], windows, kept, moved + [node[1]])
        return None

    return look(thing, slow_windows(plan, period), [], [])


def homes_of(ring):
    """The works of a ring's homes."""
    return {work for entry in ring if entry[0] == "home" for work in entry[1:]}


def some_moving(rng, plan, period, beats, rings, held, depth):
    """Any cases of moving with rings that bar, where there are such."""
    windows, kept, moved = held
    barring = [
        ring for ring in rings if homes_of(ring) <= set(kept) and slow_bars(period, beats, windows, ring)
    ]
    if barring and rng.random() < 0.7:
        return ("ring", rng.choice(barring))
    free = [work for work in range(len(plan[0])) if work not in kept + moved]
    if free and rng.random() < 0.7:
        work = rng.choice(free)
        return (
            "stay", work,
            some_moving(rng, plan, period, beats, rings, (windows, kept + [work], moved), depth),
            some_moving(rng, plan, period, beats, rings, (windows, kept, moved + [work]), depth),
        )
    wide = [s for s, (least, most) in enumerate(windows) if least < most]
    if depth and wide and rng.random() < 0.6:
        s = rng.choice(wide)
        least, most = windows[s]
        cut = rng.choice((least, most - 1, rng.randint(least, most - 1)))
        sides = [
            some_moving(rng, plan, period, beats, rings, (inner, kept, moved), depth - 1)
            for inner in split_windows(windows, s, cut)
        ]
        return ("split", s, cut, sides[0], sides[1])
    return ENOUGH


def moved_at_ends(cases, moved=0):
    """How many are moved at each enough."""
    if cases[0] == "split":
        return moved_at_ends(cases[3], moved) + moved_at_ends(cases[4], moved)
    if cases[0] == "stay":
        return moved_at_ends(cases[2], moved) + moved_at_ends(cases[3], moved + 1)
    return [moved] if cases == ENOUGH else []


def changed_node(rng, cases, rings):
    """These cases with one node changed, perhaps to a right one."""
    path = rng.choice(list(node_paths(cases)))
    node = at_path(cases, path)
    news = [node[:-1], node + (0,), ENOUGH, ("stay", rng.randint(-1, 3), ENOUGH, ENOUGH)]
    if rings:
        news += [("ring", rng.choice(rings)), ("ring", rng.choice(rings)[1:])]
    if len(node) > 1:
        news += [put(node, (1,), rng.randint(-1, 4)), put(node, (1,), True)]
    if len(node) == 5:
        news += [put(node, (2,), rng.randint(-1, 9)), node[:3] + (node[4], node[3]), node[3], node[4]]
    if len(node) == 4:
        news += [node[:2] + (node[3], node[2]), node[2], node[3]]
    return put(cases, path, rng.choice(news))


class Differing(unittest.TestCase):

    def test_none_to_eight(self):
        for many in range(9):
            for works in range(max(1, many), 9):
                one = tuple(range(works))
                other = tuple([beat + 1 if at < many else beat for at, beat in enumerate(one)])
                for first, second in ((one, other), (other, one), (one[::-1], other[::-1])):
                    told = differing(first, second)
                    self.assertEqual(told, many)
                    self.assertIs(type(told), int)

    def test_any_beats(self):
        rng = seeded("differing")
        for _ in range(500):
            works = rng.randint(1, 8)
            one = tuple([rng.randint(0, 3) for _ in range(works)])
            other = tuple([rng.randint(0, 3) for _ in range(works)])
            self.assertEqual(differing(one, other), sum(map(int.__ne__, one, other)))
            self.assertEqual(differing(one, one), 0)


class MoveChecker(unittest.TestCase):

    def let_by(self, plan, period, beats, count, thing):
        shown = repr((plan, beats, thing))
        self.assertIs(lets_moved(plan, period, beats, count, thing), True)
        self.assertEqual(repr((plan, beats, thing)), shown)

    def not_let(self, word, at, plan, period, beats, count, thing):
        shown = repr((plan, beats, thing))
        refusal = refused(lets_moved, plan, period, beats, count, thing)
        self.assertIs(type(refusal), NoPaper)
        self.assertIsInstance(refusal, PlanError)
        self.assertEqual((refusal.word, refusal.at), (word, at))
        self.assertIs(type(refusal.at), int)
        self.assertEqual(repr((plan, beats, thing)), shown)

    def same_as_slow(self, plan, period, beats, count, thing):
        """The fault that is told, which is the one that the document tells."""
        fault = slow_move_fault(plan, period, beats, count, thing)
        if fault is None:
            self.let_by(plan, period, beats, count, thing)
        else:
            self.not_let(fault[0], fault[1], plan, period, beats, count, thing)
        return fault

    def test_right_cases(self):
        for count in (0, 1, 2):
            self.let_by(ROW, 20, ALIKE, count, TWO)
        # 0 the first stay, 1 the next, 2 the ring, 3 the third stay, 4 the ring, 5 enough.
        for count in (3, 4, 8):
            self.not_let("enough", 5, ROW, 20, ALIKE, count, TWO)
        self.let_by(ROW, 20, ALIKE, 0, ENOUGH)
        self.let_by(VAIN, 100, ZEROS, 8, BARS)

    def test_cases_by_other_beats(self):
        for beats in all_beats(ROW, 20):
            if beats[0] % 7 == 0:
                self.same_as_slow(ROW, 20, beats, 2, TWO)
        # b keeps the span behind a: then the first ring doesn't bar. c is too far: the second one does.
        self.not_let("bar", 2, ROW, 20, (0, 2, 0), 2, TWO)
        self.not_let("bar", 4, ROW, 20, (0, 7, 9), 2, TWO)
        self.not_let("bar", 8, ROW, 20, (0, 0, 10), 2, TWO)
        self.let_by(ROW, 20, (0, 0, 11), 2, TWO)

    def test_counts(self):
        for many in range(9):
            for count in range(9):
                for thing in (all_moved(range(many), ENOUGH), all_moved(range(7, 7 - many, -1), ENOUGH)):
                    if many >= count:
                        self.let_by(VAIN, 100, ZEROS, count, thing)
                    else:
                        self.not_let("enough", 2 * many, VAIN, 100, ZEROS, count, thing)

    def test_kept_works_are_not_moved(self):
        for many in range(9):
            self.let_by(VAIN, 100, ZEROS, 0, all_kept(range(many), ENOUGH))
            self.not_let("enough", many, VAIN, 100, ZEROS, 1, all_kept(range(many), ENOUGH))
        thing = all_moved((3,), all_kept((0, 5), all_moved((7, 1), all_kept((2,), ENOUGH))))
        self.let_by(VAIN, 100, ZEROS, 3, thing)
        self.not_let("enough", 9, VAIN, 100, ZEROS, 4, thing)

    def test_the_kept_ones_ahead_of_the_moved_ones(self):
        self.not_let("shape", 1, VAIN, 100, ZEROS, 0, ("stay", 0, None, BARS))
        self.not_let("shape", 2, VAIN, 100, ZEROS, 0, ("stay", 0, BARS, None))
        self.not_let("shape", 1, VAIN, 100, ZEROS, 0, ("stay", 0, None, None))
        self.not_let("enough", 1, VAIN, 100, ZEROS, 1, ("stay", 0, ENOUGH, ENOUGH))
        self.let_by(VAIN, 100, ZEROS, 1, ("stay", 0, BARS, ENOUGH))
        self.not_let("enough", 1, VAIN, 100, ZEROS, 1, ("stay", 0, ENOUGH, BARS))
        deep = ("stay", 0, ("stay", 1, BARS, BARS), None)
        self.not_let("shape", 4, VAIN, 100, ZEROS, 0, deep)
        self.not_let("shape", 4, VAIN, 100, ZEROS, 0, ("stay", 0, ("split", 0, 5, BARS, BARS), None))
        self.not_let("shape", 4, VAIN, 100, ZEROS, 0, ("split", 0, 5, ("stay", 0, BARS, BARS), None))

    def test_what_holds_on_one_side_does_not_on_the_other(self):
        # Behind the kept ones the works of their stays are free again, and the windows wide.
        for side in (("stay", 1, BARS, BARS), ("stay", 1, ("stay", 2, BARS, BARS), ("stay", 2, BARS, BARS))):
            self.let_by(VAIN, 100, ZEROS, 0, ("stay", 0, side, side))
            self.let_by(VAIN, 100, ZEROS, 0, ("split", 0, 7, side, side))
            self.let_by(VAIN, 100, ZEROS, 0, ("split", 0, 7, ("split", 0, 3, side, side), ("split", 0, 30, side, side)))
        split = ("split", 0, 7, BARS, BARS)
        self.let_by(VAIN, 100, ZEROS, 0, ("stay", 0, split, split))
        self.let_by(VAIN, 100, ZEROS, 0, ("stay", 0, split, ("split", 0, 48, BARS, ENOUGH)))
        self.not_let("cut", 1, VAIN, 100, ZEROS, 0, ("split", 0, 7, split, BARS))
        self.not_let("cut", 2, VAIN, 100, ZEROS, 0, ("split", 0, 7, ("stay", 0, split, split), BARS))
        self.not_let("cut", 3, VAIN, 100, ZEROS, 0, ("split", 0, 7, ("stay", 0, BARS, split), BARS))

    def test_works(self):
        for work in (0, 1, 6, 7):
            self.let_by(VAIN, 100, ZEROS, 0, ("stay", work, BARS, BARS))
        for work in (-1, 8, 9, FORTY, -FORTY, True, False, None, "0", "a", "", (0,), [0], {}, ()):
            self.not_let("work", 0, VAIN, 100, ZEROS, 0, ("stay", work, BARS, BARS))
            self.not_let("work", 0, VAIN, 100, ZEROS, 0, ("stay", work, None, None))
            self.not_let("work", 1, VAIN, 100, ZEROS, 0, ("stay", 3, ("stay", work, BARS, BARS), BARS))
        for thing in plain_things():
            self.not_let("work", 0, VAIN, 100, ZEROS, 0, ("stay", thing, BARS, BARS))
        self.not_let("work", 0, ROW, 20, ALIKE, 0, ("stay", 3, ENOUGH, ENOUGH))
        self.let_by(ROW, 20, ALIKE, 0, ("stay", 2, ENOUGH, ENOUGH))

    def test_works_named_twice(self):
        for work in (0, 1, 5):
            again = ("stay", work, BARS, BARS)
            self.not_let("work", 1, VAIN, 100, ZEROS, 0, ("stay", work, again, BARS))
            self.not_let("work", 2, VAIN, 100, ZEROS, 0, ("stay", work, BARS, again))
            for middle in ((2,), (3, 4), (2, 3, 4, 6, 7)):
                many = len(middle)
                self.not_let("work", many + 1, VAIN, 100, ZEROS, 0, ("stay", work, all_kept(middle, again), BARS))
                self.not_let("work", 2 * many + 1, VAIN, 100, ZEROS, 0, ("stay", work, all_moved(middle, again), BARS))
                self.not_let("work", many + 2, VAIN, 100, ZEROS, 0, ("stay", work, BARS, all_kept(middle, again)))
                self.not_let("work", 2 * many + 2, VAIN, 100, ZEROS, 0, ("stay", work, BARS, all_moved(middle, again)))
            self.not_let("work", 2, VAIN, 100, ZEROS, 0, ("stay", work, ("split", 0, 7, again, BARS), BARS))
            self.let_by(VAIN, 100, ZEROS, 0, ("split", 0, 7, again, again))

    def test_homes(self):
        # A ring by a home from b to a bars where both stay at beats that don't keep the first span.
        thing = ("stay", 0, ("stay", 1, AB, ENOUGH), ENOUGH)
        self.let_by(ROW, 20, ALIKE, 1, thing)
        self.let_by(ROW, 20, (5, 11, 0), 1, thing)
        self.not_let("bar", 2, ROW, 20, (5, 10, 0), 1, thing)
        self.not_let("bar", 2, ROW, 20, (19, 1, 0), 1, thing)
        # Neither stays, one of both, one is moved, both are moved, another one stays.
        self.not_let("ring", 0, ROW, 20, ALIKE, 0, AB)
        for at, end in (
            (1, ("stay", 0, AB, ENOUGH)), (1, ("stay", 1, AB, ENOUGH)), (2, ("stay", 0, ENOUGH, AB)),
            (3, ("stay", 0, ("stay", 1, ENOUGH, AB), ENOUGH)), (3, ("stay", 0, ENOUGH, ("stay", 1, AB, ENOUGH))),
            (4, ("stay", 0, ENOUGH, ("stay", 1, ENOUGH, AB))), (2, ("stay", 0, ("stay", 2, AB, ENOUGH), ENOUGH)),
            (1, ("split", 0, 3, AB, ENOUGH)),
        ):
            self.not_let("ring", at, ROW, 20, ALIKE, 0, end)
        self.let_by(ROW, 20, ALIKE, 0, ("stay", 1, ("stay", 2, ("stay", 0, AB, ENOUGH), ENOUGH), ENOUGH))
        self.let_by(ROW, 20, ALIKE, 0, ("stay", 1, ("split", 0, 3, ("stay", 0, AB, ENOUGH), ENOUGH), ENOUGH))
        # A home from a work to itself wants it to stay, too.
        vain = ("ring", ((0, 1), (1, -1), ("home", 0, 0)))
        self.not_let("ring", 0, VAIN, 100, ZEROS, 0, vain)
        self.let_by(VAIN, 100, ZEROS, 0, ("stay", 0, vain, BARS))
        self.not_let("ring", 2, VAIN, 100, ZEROS, 0, ("stay", 0, BARS, vain))
        truth = ("ring", ((0, 1), (1, -1), ("home", False, 0)))
        self.not_let("ring", 1, VAIN, 100, ZEROS, 0, ("stay", 0, truth, BARS))

    def test_homes_by_the_windows_there(self):
        thing = ("stay", 0, ("stay", 1, ("split", 0, 3, AB, AB), ENOUGH), ENOUGH)
        self.let_by(ROW, 20, ALIKE, 1, thing)
        self.not_let("bar", 4, ROW, 20, (0, 4, 0), 1, thing)
        self.not_let("bar", 3, ROW, 20, (0, 3, 0), 1, thing)

    def test_shapes(self):
        for thing in plain_things():
            self.same_as_slow(ROW, 20, ALIKE, 0, thing)
        for thing in (
            ("enough", 0), ("enough", ENOUGH), ["enough"], "enough", (), ("enoug",), (None,), ("stay",), ("stay", 0),
            ("stay", 0, BARS), ("stay", 0, BARS, BARS, BARS), ["stay", 0, BARS, BARS], ("stays", 0, BARS, BARS),
            ("enough", 0, BARS, BARS), ("split", 0, BARS, BARS), ("stay", 0, 7, BARS, BARS), ("ring",), ("ring", 0, 1, BARS),
            ("prices", ()), ("split", 0, 7, BARS), list(BARS), {"stay": 0}, (0, "stay", BARS, BARS), (("enough",),), None,
            ("split",), ("ring", BARS[1], 0), ("split", 0, 7, BARS, BARS, BARS),
        ):
            self.not_let("shape", 0, VAIN, 100, ZEROS, 0, thing)
            self.not_let("shape", 1, VAIN, 100, ZEROS, 0, ("stay", 3, thing, BARS))
            self.not_let("shape", 2, VAIN, 100, ZEROS, 0, ("stay", 3, BARS, thing))
            self.not_let("shape", 2, VAIN, 100, ZEROS, 0, ("split", 0, 7, BARS, thing))

    def test_spans_cuts_and_rings(self):
        for s in (-1, 3, FORTY, True, False, None, "0", (0,), []):
            self.not_let("span", 0, VAIN, 100, ZEROS, 0, ("split", s, 7, BARS, BARS))
            self.not_let("span", 1, VAIN, 100, ZEROS, 0, ("stay", 0, ("split", s, 7, BARS, BARS), BARS))
        for cut in (0, 1, 47, 48):
            self.let_by(VAIN, 100, ZEROS, 0, ("split", 0, cut, BARS, BARS))
        for cut in (-1, 49, 50, FORTY, -FORTY, True, False, None, "7", (7,), [7]):
            self.not_let("cut", 0, VAIN, 100, ZEROS, 0, ("split", 0, cut, BARS, BARS))
            self.not_let("cut", 2, VAIN, 100, ZEROS, 0, ("stay", 0, BARS, ("split", 0, cut, BARS, BARS)))
        for thing in plain_things():
            self.not_let("ring", 0, VAIN, 100, ZEROS, 0, ("ring", thing))
            self.not_let("ring", 1, VAIN, 100, ZEROS, 0, ("stay", 0, ("ring", thing), BARS))
        self.not_let("bar", 0, VAIN, 100, ZEROS, 0, ("ring", ((2, 1), (2, -1))))
        self.not_let("bar", 0, ROW, 20, ALIKE, 0, ("ring", ((0, 1), (0, -1))))
        for thing in list(with_lists(BARS)) + list(with_truths(BARS)) + list(with_lists(TWO)) + list(with_truths(TWO)):
            self.assertIsNotNone(self.same_as_slow(VAIN, 100, ZEROS, 2, thing))

    def test_two_faults_at_once(self):
        for word, at, thing in (
            ("span", 0, ("split", 9, -5, None, None)), ("cut", 0, ("split", 0, -5, None, None)),
            ("work", 0, ("stay", 9, None, None)), ("shape", 0, ("stay", 9, None)),
            ("enough", 1, ("stay", 0, ENOUGH, None)), ("shape", 1, ("stay", 0, None, ENOUGH)),
            ("work", 1, ("stay", 0, ("stay", 0, None, None), ENOUGH)), ("ring", 1, ("stay", 0, ("ring", 0), ENOUGH)),
            ("bar", 1, ("stay", 0, ("ring", ((2, 1), (2, -1))), ("stay", 0, None, None))),
            ("work", 2, ("stay", 0, BARS, ("stay", 0, ENOUGH, None))),
            ("enough", 2, ("split", 0, 7, BARS, ENOUGH)), ("cut", 2, ("split", 0, 7, BARS, ("split", 0, 7, ENOUGH, ENOUGH))),
            ("enough", 4, ("stay", 0, ("stay", 1, BARS, BARS), ENOUGH)),
            ("enough", 3, ("stay", 0, ("stay", 1, BARS, ENOUGH), ENOUGH)),
        ):
            self.not_let(word, at, VAIN, 100, ZEROS, 2, thing)

    def test_each_node_changed(self):
        self.assertEqual(nodes_of(TWO), 11)
        for number, path in enumerate(node_paths(TWO)):
            self.not_let("shape", number, ROW, 20, ALIKE, 2, put(TWO, path, list(at_path(TWO, path))))
            self.not_let("span", number, ROW, 20, ALIKE, 2, put(TWO, path, ("split", 2, 3, AB, AB)))
            self.not_let("cut", number, ROW, 20, ALIKE, 2, put(TWO, path, ("split", 0, 5, AB, AB)))
            self.not_let("ring", number, ROW, 20, ALIKE, 2, put(TWO, path, ("ring", ((0, 1),))))
            self.not_let("bar", number, ROW, 20, ALIKE, 2, put(TWO, path, ("ring", ((0, 1), (0, -1)))))
            self.not_let("work", number, ROW, 20, ALIKE, 2, put(TWO, path, ("stay", 3, AB, AB)))
            for thing in plain_things() + [ENOUGH, AB, BC, AC, TWO]:
                self.same_as_slow(ROW, 20, ALIKE, 2, put(TWO, path, thing))

    def test_everything_changed(self):
        thing = ("stay", 0, ("split", 0, 3, ("stay", 1, AB, ENOUGH), ENOUGH), ("stay", 1, BARS, ENOUGH))
        for path in paths_of(thing):
            for new in plain_things() + [0, 1, 2, 3, 4, ENOUGH, AB, BC, AC, BARS]:
                for count in (0, 1, 2):
                    self.same_as_slow(ROW, 20, ALIKE, count, put(thing, path, new))

    def test_a_hundred_within_one_another(self):
        def chain(depth, side, end):
            cases = end
            for level in range(depth - 1):
                at = depth - 2 - level
                cases = ("split", 2, at, BARS, cases) if side == "upper" else ("split", 2, 98 - at, cases, BARS)
            return cases

        for side in ("lower", "upper"):
            for depth in (1, 2, 50, 91, 92):
                last = 2 * (depth - 1) if side == "upper" else depth - 1
                for many in (0, 1, 8):
                    cases = chain(depth, side, all_moved(range(many), ENOUGH))
                    self.assertEqual(depth_of(cases), depth + many)
                    self.let_by(VAIN, 100, ZEROS, many, cases)
                    self.not_let("enough", last + 2 * many, VAIN, 100, ZEROS, many + 1, cases)
                    first = all_moved(range(many), chain(depth, side, ENOUGH))
                    self.let_by(VAIN, 100, ZEROS, many, first)
                    self.not_let("enough", 2 * many + last, VAIN, 100, ZEROS, many + 1, first)
        for side in ("lower", "upper"):
            last = 198 if side == "upper" else 99
            self.let_by(VAIN, 100, ZEROS, 8, chain(100, side, BARS))
            for word, end in (
                ("shape", None), ("ring", ("ring", ())), ("bar", ("ring", ((2, 1), (2, -1)))), ("enough", ENOUGH),
                ("work", ("stay", 8, None, None)), ("span", ("split", 3, 0, BARS, BARS)), ("cut", ("split", 2, -1, BARS, BARS)),
            ):
                self.not_let(word, last, VAIN, 100, ZEROS, 1, chain(100, side, end))

    def test_thousands_of_nodes(self):
        def halved(s, least, most, within):
            if least == most:
                return within
            cut = (least + most) // 2
            return ("split", s, cut, halved(s, least, cut, within), halved(s, cut + 1, most, within))

        def each_stays(work):
            return ENOUGH if work == 8 else ("stay", work, each_stays(work + 1), each_stays(work + 1))

        cases = halved(0, 0, 48, each_stays(0))
        self.assertEqual(nodes_of(cases), 48 + 49 * 511)
        cases = ("split", 0, 48, cases, BARS)
        self.let_by(VAIN, 100, ZEROS, 0, cases)
        # The first end: all works stay. It is behind the splits down to the first length and eight stays.
        self.not_let("enough", slow_move_fault(VAIN, 100, ZEROS, 1, cases)[1], VAIN, 100, ZEROS, 1, cases)
        paths = list(node_paths(cases))
        for number in (1, 500, 12345, 20000, len(paths) - 1):
            self.not_let("shape", number, VAIN, 100, ZEROS, 0, put(cases, paths[number], None))

    def test_any_cases_and_what_they_show(self):
        rng = seeded("any moving")
        seen = {}
        shown = {}
        for _ in range(1500):
            period = rng.randint(1, 6)
            plan = some_plan(rng, rng.randint(1, 3), rng.randint(0, 4), rng.choice((period, 2 * period)))
            if rng.random() < 0.6:
                plan = kept_plan(rng, plan, period, some_beats(rng, plan, period), rng.choice((0, 1, period)))
            beats = some_beats(rng, plan, period)
            rings = some_rings(rng, plan, tuple(range(len(plan[0]))))
            cases = some_moving(rng, plan, period, beats, rings, (slow_windows(plan, period), [], []), 3)
            most = min(moved_at_ends(cases), default=len(plan[0]))
            for count in {most, most + 1, max(0, most - 1), rng.randint(0, 8)}:
                for thing in (cases, changed_node(rng, cases, rings)):
                    fault = self.same_as_slow(plan, period, beats, count, thing)
                    word = fault[0] if fault else "right"
                    seen[word] = seen.get(word, 0) + 1
                    if fault is None:
                        shown[count] = shown.get(count, 0) + 1
                    self.shows_it(plan, period, beats, count, fault)
        for word in ("right", "shape", "span", "cut", "ring", "bar", "work", "enough"):
            self.assertGreater(seen.get(word, 0), 10, word)
        for count in (1, 2):
            self.assertGreater(shown.get(count, 0), 30, count)

    def shows_it(self, plan, period, beats, count, fault):
        """Where cases are let by, no beats that keep all spans differ at fewer works."""
        if fault is None:
            for row in all_beats(plan, period):
                if slow_keeps(plan, period, row):
                    self.assertGreaterEqual(sum(map(int.__ne__, row, beats)), count)

    def test_no_count_above_the_fewest(self):
        rng = seeded("fewest")
        tried = 0
        for _ in range(500):
            period = rng.randint(2, 6)
            plan = some_plan(rng, rng.randint(1, 3), rng.randint(1, 4), 2 * period)
            beats = some_beats(rng, plan, period)
            fewest = min([
                sum(map(int.__ne__, row, beats)) for row in all_beats(plan, period) if slow_keeps(plan, period, row)
            ], default=None)
            if fewest is None:
                continue
            rings = some_rings(rng, plan, tuple(range(len(plan[0]))))
            for _ in range(5):
                tried += 1
                cases = some_moving(rng, plan, period, beats, rings, (slow_windows(plan, period), [], []), 4)
                self.assertIs(type(refused(lets_moved, plan, period, beats, fewest + 1, cases)), NoPaper)
        self.assertGreater(tried, 300)

    def test_asked_again(self):
        for _ in range(3):
            self.let_by(ROW, 20, ALIKE, 2, TWO)
            self.not_let("enough", 5, ROW, 20, ALIKE, 3, TWO)
            self.let_by(VAIN, 100, ZEROS, 8, BARS)
            self.not_let("ring", 0, ROW, 20, ALIKE, 0, AB)


if __name__ == "__main__":
    unittest.main()
