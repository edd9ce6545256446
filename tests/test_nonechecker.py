"""[15], [5] The checker of cases: what is let by, and the first node that isn't as told."""

import unittest
from itertools import product

from beatplans.errors import NoPaper, PlanError
from beatplans.nonechecker import lets_none, lets_none_with
from tests.helpers import (
    FORTY, all_beats, at_path, depth_of, node_paths, nodes_of, paths_of, plain_things, put, refused, seeded, slow_bars,
    slow_fault, slow_keeps, slow_times, slow_windows, some_beats, some_plan, some_rings, split_windows,
)

# By a round of 10 each two of the first three spans can be kept together, but not all three.
THREE = (("a", "b", "c"), (("span", 0, 1, 0, 6), ("span", 0, 1, 3, 9), ("span", 0, 1, 7, 12), ("span", 2, 2, 0, 9)))
LOW = ("ring", ((0, 1), (2, -1)))
HIGH = ("ring", ((1, 1), (0, -1)))
CASES = ("split", 0, 2, HIGH, LOW)

# END bars whatever is split: so cases of any form that end with it are right.
OPEN = (("a", "b"), (
    ("span", 0, 1, 0, 49), ("span", 0, 1, 50, 99), ("span", 0, 1, 0, 99), ("span", 1, 0, 5, 104), ("span", 1, 1, 0, 99),
))
END = ("ring", ((0, 1), (1, -1)))


def chain(depth, side, end):
    """Cases as deep as told, each split's other side ending at once."""
    cases = end
    for level in range(depth - 1):
        # Window (0, 99): from below one length at a time is cut off, from above likewise.
        at = depth - 2 - level
        cases = ("split", 2, at, END, cases) if side == "upper" else ("split", 2, 98 - at, cases, END)
    return cases


def full(windows, order):
    """Cases that split these spans down to one length each."""
    for s in order:
        least, most = windows[s]
        if least < most:
            cut = (least + most) // 2
            under, above = split_windows(windows, s, cut)
            return ("split", s, cut, full(under, order), full(above, order))
    return END


def some_cases(rng, plan, period, beats, rings, windows, depth):
    """Any cases with rings that bar, where there are such; else with any rings."""
    barring = [ring for ring in rings if slow_bars(period, beats, windows, ring)]
    wide = [s for s, (least, most) in enumerate(windows) if least < most]
    if depth == 0 or not wide or barring and rng.random() < 0.6:
        return ("ring", rng.choice(barring or rings))
    s = rng.choice(wide)
    least, most = windows[s]
    cut = rng.choice((least, most - 1, rng.randint(least, most - 1)))
    under, above = split_windows(windows, s, cut)
    lower = some_cases(rng, plan, period, beats, rings, under, depth - 1)
    return ("split", s, cut, lower, some_cases(rng, plan, period, beats, rings, above, depth - 1))


def changed_node(rng, cases, rings):
    """These cases with one node changed, perhaps to a right one."""
    path = rng.choice(list(node_paths(cases)))
    node = at_path(cases, path)
    news = [node[:-1], ("ring", rng.choice(rings)), ("ring", rng.choice(rings)[1:]), put(node, (1,), rng.randint(-1, 4))]
    if len(node) == 5:
        news += [put(node, (2,), rng.randint(-1, 9)), node[:3] + (node[4], node[3]), node[3], node[4]]
    return put(cases, path, rng.choice(news))


class Checker(unittest.TestCase):

    def let_by(self, plan, period, thing, beats=None, stays=()):
        shown = repr(thing)
        if beats is None:
            self.assertIs(lets_none(plan, period, thing), True)
            beats = (0,) * len(plan[0])
        self.assertIs(lets_none_with(plan, period, beats, stays, thing), True)
        self.assertEqual(repr(thing), shown)

    def not_let(self, word, at, plan, period, thing, beats=None, stays=()):
        shown = repr(thing)
        refusals = [refused(lets_none_with, plan, period, beats or (0,) * len(plan[0]), stays, thing)]
        if beats is None:
            refusals.append(refused(lets_none, plan, period, thing))
        for refusal in refusals:
            self.assertIs(type(refusal), NoPaper)
            self.assertIsInstance(refusal, PlanError)
            self.assertEqual((refusal.word, refusal.at), (word, at))
            self.assertIs(type(refusal.at), int)
        self.assertEqual(repr(thing), shown)

    def test_right_cases(self):
        self.let_by(THREE, 10, CASES)
        self.let_by(OPEN, 100, END)
        self.let_by(OPEN, 100, ("split", 0, 3, END, ("split", 1, 70, END, END)))
        self.let_by((("a",), (("span", 0, 0, 1, 9),)), 10, ("ring", ((0, 1),)))
        self.let_by((("a",), (("span", 0, 0, 1, 9),)), 10, ("ring", ((0, -1),)))
        self.let_by((("a", "b"), (("apart", 0, 1, 6, 5),)), 10, ("ring", ((0, 1), (0, -1))))

    def test_rings_that_do_not_bar(self):
        self.not_let("bar", 0, THREE, 10, LOW)
        self.not_let("bar", 0, THREE, 10, HIGH)
        self.not_let("bar", 0, THREE, 10, ("ring", ((0, 1), (0, -1))))
        self.not_let("bar", 1, THREE, 10, ("split", 0, 2, LOW, LOW))
        self.not_let("bar", 2, THREE, 10, ("split", 0, 2, HIGH, HIGH))
        self.not_let("bar", 1, THREE, 10, ("split", 0, 2, LOW, HIGH))
        self.not_let("bar", 0, (("a",), (("span", 0, 0, 1, 10),)), 10, ("ring", ((0, 1),)))
        self.not_let("bar", 0, (("a",), (("span", 0, 0, 0, 9),)), 10, ("ring", ((0, 1),)))

    def test_the_cut_belongs_to_the_lower_side(self):
        # Only at a cut of 2 are both sides shown: 3 is a length that the second span allows.
        for cut in range(6):
            thing = ("split", 0, cut, HIGH, LOW)
            if cut == 2:
                self.let_by(THREE, 10, thing)
            else:
                self.not_let("bar", 2 if cut < 2 else 1, THREE, 10, thing)

    def test_cuts_at_their_edges(self):
        for s, (least, most) in enumerate(slow_windows(OPEN, 100)):
            for cut in (least, least + 1, most - 2, most - 1):
                self.let_by(OPEN, 100, ("split", s, cut, END, END))
            for cut in (least - 1, most, most + 1, -1, -FORTY, FORTY, None, True, False, "2", "", (2,), [2], {}, ()):
                self.not_let("cut", 0, OPEN, 100, ("split", s, cut, END, END))

    def test_cuts_by_the_windows_there(self):
        for cut, inner, side, right in (
            (20, 19, "lower", True), (20, 20, "lower", False), (20, 21, "lower", False), (20, 0, "lower", True),
            (20, 21, "upper", True), (20, 20, "upper", False), (20, 48, "upper", True), (20, 49, "upper", False),
        ):
            within = ("split", 0, inner, END, END)
            thing = ("split", 0, cut, within, END) if side == "lower" else ("split", 0, cut, END, within)
            if right:
                self.let_by(OPEN, 100, thing)
            else:
                self.not_let("cut", 1 if side == "lower" else 2, OPEN, 100, thing)
        # The window of one side is not that of the other one, nor that of another span.
        self.let_by(OPEN, 100, ("split", 0, 20, ("split", 0, 10, END, END), ("split", 0, 30, END, END)))
        self.let_by(OPEN, 100, ("split", 0, 20, ("split", 2, 97, END, END), ("split", 2, 0, END, END)))
        self.not_let("cut", 1, OPEN, 100, ("split", 0, 20, ("split", 0, 30, END, END), ("split", 0, 10, END, END)))

    def test_windows_of_one_length_or_none_have_no_cut(self):
        plan = (("a", "b"), (("span", 0, 1, 3, 3), ("apart", 0, 1, 6, 5)))
        for s in (0, 1):
            for cut in (2, 3, 4, 5, 6, 7):
                self.not_let("cut", 0, plan, 10, ("split", s, cut, LOW, LOW))
        plan = (("a",), (("span", 0, 0, 0, 9999),))
        self.not_let("cut", 0, plan, 1, ("split", 0, 0, END, END))

    def test_the_window_ends_within_a_round(self):
        plan = (("a", "b"), (("span", 0, 1, 0, 50), ("span", 0, 1, 0, 4), ("span", 0, 1, 5, 9)))
        end = ("ring", ((1, 1), (2, -1)))
        self.let_by(plan, 10, ("split", 0, 8, end, end))
        self.not_let("cut", 0, plan, 10, ("split", 0, 9, end, end))

    def test_numbers_of_spans(self):
        for s in (-1, 5, 6, FORTY, -FORTY, True, False, None, "0", "", (0,), [0], {}, ()):
            self.not_let("span", 0, OPEN, 100, ("split", s, 20, END, END))
        self.not_let("span", 0, (("a",), ()), 10, ("split", 0, 0, END, END))

    def test_shapes(self):
        for thing in plain_things():
            named = isinstance(thing, tuple) and (len(thing), thing[:1]) in ((2, ("ring",)), (5, ("split",)))
            if named:
                self.same_as_slow(OPEN, 100, (0, 0), (), thing)
            else:
                self.not_let("shape", 0, OPEN, 100, thing)
        ring = END[1]
        for thing in (
            ("ring", ring, ring), ("rings", ring), ("split", ring), ("ring", 0, 1, END, END), ("split", 0, 1, END),
            ("split", 0, 1, END, END, END), ("splits", 0, 1, END, END), list(END), ["split", 0, 1, END, END],
            ("prices", ()), ("stay", 0, END, END), ("enough",), (None, ring), (("ring",), ring), "ring", ring, ring[0],
            ("", ring), ("ring",), {"ring": ring}, ("split", [0, 1, END, END]), (0, 0, 1, END, END),
        ):
            self.not_let("shape", 0, OPEN, 100, thing)
            self.not_let("shape", 1, OPEN, 100, ("split", 0, 3, thing, END))
            self.not_let("shape", 2, OPEN, 100, ("split", 0, 3, END, thing))

    def test_things_in_the_place_of_rings(self):
        for thing in plain_things():
            self.not_let("ring", 0, OPEN, 100, ("ring", thing))
            self.not_let("ring", 2, OPEN, 100, ("split", 0, 3, END, ("ring", thing)))
        for ring in (
            (), ((0, 1),), ((0, 1), (1, 1)), ((0, True), (1, -1)), ((False, 1), (1, -1)), ((0, 1), (True, -1)),
            [(0, 1), (1, -1)], ([0, 1], (1, -1)), ((0, 1), [1, -1]), ((0, 1), (5, -1)), ((-1, 1), (0, -1)),
            ((0, 1), (1, 0)), ((0, 1), (1, -1), ()), ((0, 1), (1, -1), ("home", 0, 0)), END,
        ):
            self.not_let("ring", 0, OPEN, 100, ("ring", ring))

    def test_how_long_rings_are(self):
        plan = (("a",), (("span", 0, 0, 1, 1),))
        for many in (1, 2, 59, 60):
            self.let_by(plan, 599, ("ring", ((0, 1),) * many))
        for many in (61, 62):
            self.not_let("ring", 0, plan, 599, ("ring", ((0, 1),) * many))
        self.not_let("ring", 0, plan, 599, ("ring", ()))
        self.let_by(plan, 7, ("ring", ((0, 1),) * 6))
        self.not_let("bar", 0, plan, 7, ("ring", ((0, 1),) * 7))

    def test_homes(self):
        plan = (("a", "b", "c"), (("span", 0, 1, 2, 5), ("span", 1, 2, 0, 9)))
        right = ("ring", ((0, 1), ("home", 1, 0)))
        for beats in product(range(10), repeat=2):
            lacks = not 2 <= (beats[1] - beats[0]) % 10 <= 5
            for third in (0, 7):
                for stays in ((0, 1), (0, 1, 2)):
                    if lacks:
                        self.let_by(plan, 10, right, beats + (third,), stays)
                        self.let_by(plan, 10, ("split", 0, 3, right, right), beats + (third,), stays)
                    else:
                        self.not_let("bar", 0, plan, 10, right, beats + (third,), stays)
                for stays in ((), (0,), (1,), (0, 2), (1, 2)):
                    self.not_let("ring", 0, plan, 10, right, beats + (third,), stays)
        refusal = refused(lets_none, plan, 10, right)
        self.assertEqual((type(refusal), refusal.word, refusal.at), (NoPaper, "ring", 0))

    def test_homes_by_the_windows_there(self):
        # b stands from 2 to 5 behind a, c from 2 to 5 behind b; 9 behind a is too near, too far.
        plan = (("a", "b", "c"), (("span", 0, 1, 2, 5), ("span", 1, 2, 2, 5)))
        ring = ("ring", ((0, 1), (1, 1), ("home", 2, 0)))
        self.let_by(plan, 20, ring, (0, 0, 11), (0, 2))
        self.let_by(plan, 20, ring, (0, 0, 3), (0, 2))
        self.not_let("bar", 0, plan, 20, ring, (0, 0, 10), (0, 2))
        self.not_let("bar", 0, plan, 20, ring, (0, 0, 4), (0, 2))
        self.not_let("bar", 2, plan, 20, ("split", 0, 4, ring, ring), (0, 0, 10), (0, 2))
        self.not_let("bar", 1, plan, 20, ("split", 0, 4, ring, ring), (0, 0, 9), (0, 2))

    def test_the_order_of_words(self):
        for word, at, thing in (
            ("span", 0, ("split", 9, -5, END, END)), ("span", 0, ("split", 9, -5, None, None)),
            ("cut", 0, ("split", 0, -5, None, None)), ("shape", 1, ("split", 0, 3, None, None)),
            ("ring", 0, ("ring", ((0, 1),))), ("shape", 0, ("ring", ((0, 1),), 0)),
            ("shape", 2, ("split", 0, 3, END, ("splat", 9, -5, END, END))),
            ("cut", 1, ("split", 0, 3, ("split", 0, 3, None, None), None)),
            ("ring", 1, ("split", 0, 3, ("ring", None), ("split", 9, 0, END, END))),
            ("span", 2, ("split", 0, 3, END, ("split", 9, 0, ("ring", None), END))),
            ("bar", 3, ("split", 0, 3, ("split", 1, 60, END, ("ring", ((0, 1), (0, -1)))), None)),
            ("shape", 4, ("split", 0, 3, ("split", 1, 60, END, END), None)),
        ):
            self.not_let(word, at, OPEN, 100, thing)

    def test_each_node_changed(self):
        cases = full(((0, 1), (50, 52), (0, 99), (5, 104), (0, 99)), (0, 1))
        plan = (OPEN[0], (("span", 0, 1, 0, 1), ("span", 0, 1, 50, 52)) + OPEN[1][2:])
        self.let_by(plan, 100, cases)
        for number, path in enumerate(node_paths(cases)):
            self.not_let("shape", number, plan, 100, put(cases, path, list(at_path(cases, path))))
            for thing in plain_things():
                self.same_as_slow(plan, 100, (0, 0), (), put(cases, path, thing))
            self.not_let("ring", number, plan, 100, put(cases, path, ("ring", ((2, 1),))))
            self.not_let("bar", number, plan, 100, put(cases, path, ("ring", ((2, 1), (2, -1)))))
            self.not_let("span", number, plan, 100, put(cases, path, ("split", 5, 0, END, END)))
            self.not_let("cut", number, plan, 100, put(cases, path, ("split", 2, 99, END, END)))

    def test_everything_changed(self):
        thing = ("split", 0, 2, HIGH, ("split", 3, 4, LOW, LOW))
        self.let_by(THREE, 10, thing)
        for path in paths_of(thing):
            for new in plain_things() + [0, 1, 2, 3, 9, list(path), END, LOW, HIGH]:
                self.same_as_slow(THREE, 10, (0, 0, 0), (), put(thing, path, new))

    def same_as_slow(self, plan, period, beats, stays, thing):
        fault = slow_fault(plan, period, beats, stays, thing)
        if fault is None:
            self.assertIs(lets_none_with(plan, period, beats, stays, thing), True)
        else:
            refusal = refused(lets_none_with, plan, period, beats, stays, thing)
            self.assertIs(type(refusal), NoPaper)
            self.assertEqual((refusal.word, refusal.at), fault)
        if not stays:
            refusal = refused(lets_none, plan, period, thing)
            self.assertEqual(refusal and (refusal.word, refusal.at), fault)
        return fault

    def test_any_cases_and_what_they_show(self):
        rng = seeded("any cases")
        seen = {}
        for _ in range(2500):
            period = rng.randint(1, 7)
            plan = some_plan(rng, rng.randint(1, 3), rng.randint(1, 4), rng.choice((period, 2 * period)))
            beats = some_beats(rng, plan, period)
            stays = tuple([work for work in range(len(plan[0])) if rng.random() < 0.3])
            rings = some_rings(rng, plan, stays)
            if not rings:
                continue
            cases = some_cases(rng, plan, period, beats, rings, slow_windows(plan, period), 5)
            for thing in (cases, changed_node(rng, cases, rings), changed_node(rng, cases, rings)):
                fault = self.same_as_slow(plan, period, beats, stays, thing)
                word = fault[0] if fault else "right"
                seen[word] = seen.get(word, 0) + 1
                self.shows_it(plan, period, beats, stays, fault)
                others = tuple([beat if work in stays else rng.randrange(period) for work, beat in enumerate(beats)])
                self.assertEqual(self.same_as_slow(plan, period, others, stays, thing), fault)
        for word in ("right", "shape", "span", "cut", "ring", "bar"):
            self.assertGreater(seen.get(word, 0), 20, word)
        self.assertGreater(seen["right"], 500)

    def shows_it(self, plan, period, beats, stays, fault):
        """Where cases are let by, no beats with these works at these beats keep all spans."""
        if fault is None:
            self.assertIsNone(slow_times(plan, period, beats, stays))
            for row in all_beats(plan, period):
                if all(row[work] == beats[work] for work in stays):
                    self.assertFalse(slow_keeps(plan, period, row))

    def test_nothing_shows_that_kept_plans_are_not(self):
        rng = seeded("kept")
        for _ in range(600):
            period = rng.randint(2, 8)
            plan = some_plan(rng, rng.randint(1, 3), rng.randint(1, 4), 2 * period)
            beats = some_beats(rng, plan, period)
            stays = tuple([work for work in range(len(plan[0])) if rng.random() < 0.3])
            rings = some_rings(rng, plan, stays)
            if not rings or slow_times(plan, period, beats, stays) is None:
                continue
            for _ in range(5):
                cases = some_cases(rng, plan, period, beats, rings, slow_windows(plan, period), 6)
                self.assertIs(type(refused(lets_none_with, plan, period, beats, stays, cases)), NoPaper)

    def test_a_hundred_within_one_another(self):
        for side in ("lower", "upper"):
            for depth in (1, 2, 50, 99, 100):
                cases = chain(depth, side, END)
                self.assertEqual(depth_of(cases), depth)
                self.let_by(OPEN, 100, cases)
                last = 2 * (depth - 1) if side == "upper" else depth - 1
                self.not_let("shape", last, OPEN, 100, chain(depth, side, None))
                self.not_let("ring", last, OPEN, 100, chain(depth, side, ("ring", ((0, 1),))))
                self.not_let("bar", last, OPEN, 100, chain(depth, side, ("ring", ((2, 1), (2, -1)))))
                self.not_let("span", last, OPEN, 100, chain(depth, side, ("split", 5, 0, END, END)))
                self.not_let("cut", last, OPEN, 100, chain(depth, side, ("split", 2, -1, END, END)))

    def test_the_window_deep_within(self):
        self.let_by(OPEN, 100, chain(99, "upper", ("split", 2, 98, END, END)))
        self.not_let("cut", 2 * 98, OPEN, 100, chain(99, "upper", ("split", 2, 97, END, END)))
        self.not_let("cut", 2 * 98, OPEN, 100, chain(99, "upper", ("split", 2, 99, END, END)))
        self.let_by(OPEN, 100, chain(99, "lower", ("split", 2, 0, END, END)))
        self.not_let("cut", 98, OPEN, 100, chain(99, "lower", ("split", 2, 1, END, END)))

    def test_thousands_of_nodes(self):
        windows = ((0, 0), (50, 50), (0, 99), (5, 104), (0, 0))
        cases = full(windows, (2, 3))
        self.assertEqual(nodes_of(cases), 19999)
        self.let_by(OPEN, 100, cases)
        paths = list(node_paths(cases))
        for number in (1, 100, 9998, 12345, 19997, 19998):
            self.not_let("shape", number, OPEN, 100, put(cases, paths[number], None))
            self.not_let("ring", number, OPEN, 100, put(cases, paths[number], ("ring", ())))
        both = put(put(cases, paths[19998], None), paths[777], ("ring", ()))
        self.not_let("ring", 777, OPEN, 100, both)

    def test_asked_again(self):
        for _ in range(3):
            self.let_by(THREE, 10, CASES)
            self.not_let("bar", 0, THREE, 10, LOW)
            self.let_by(OPEN, 100, END)
            self.not_let("ring", 0, THREE, 10, ("ring", ((0, 1),)))

    def test_the_same_cases_for_other_rounds(self):
        for period in range(1, 40):
            fault = self.same_as_slow(THREE, period, (0, 0, 0), (), CASES)
            self.shows_it((THREE[0][:2], THREE[1][:3]), period, (0, 0), (), fault)


if __name__ == "__main__":
    unittest.main()
