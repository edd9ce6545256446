"""[21], [5] The checker of cases of waits: what is let by, and the first node that isn't as told."""

import unittest

from beatplans.errors import NoPaper, PlanError
from beatplans.waitchecker import lets_waits
from tests.helpers import (
    FORTY, all_beats, at_path, depth_of, free_small, kept_plan, node_paths, nodes_of, paths_of, plain_things, put, refused,
    seeded, slow_all_times, slow_are_prices, slow_bars, slow_fault, slow_keeps, slow_shown, slow_waits, slow_windows,
    some_beats, some_plan, some_prices, some_rings, some_weights, split_windows, with_lists, with_truths,
)

# By a round of 100 the lengths there and back come to 100 or 200: so the first two spans wait 70 or 170 together.
PAIR = (("a", "b"), (("span", 0, 1, 10, 109), ("span", 1, 0, 20, 119), ("span", 0, 0, 0, 99)))
BOTH = ((0, 1), (1, 1))
EVEN = (1, 1, 0)
END = ("prices", ((1, BOTH),))
LAME = ("prices", ())

# No times at all: the ring bars whatever is split.
VAIN = (("a", "b"), (("span", 0, 1, 0, 49), ("span", 0, 1, 50, 99), ("span", 0, 1, 0, 99)))
BARS = ("ring", ((0, 1), (1, -1)))


def chain(depth, side, inner, end, s):
    """Cases as deep as told that cut one length of span s, whose window is (0, 99), off after another."""
    cases = inner
    for level in range(depth - 1):
        at = depth - 2 - level
        cases = ("split", s, at, end, cases) if side == "upper" else ("split", s, 98 - at, cases, end)
    return cases


def some_cases(rng, period, rings, weights, windows, depth):
    """Any cases of waits with rings that bar, where there are such, and with prices."""
    barring = [ring for ring in rings if slow_bars(period, (), windows, ring)]
    wide = [s for s, (least, most) in enumerate(windows) if least < most]
    if depth == 0 or not wide or rng.random() < (0.5 if barring else 0.2):
        if barring and rng.random() < 0.8:
            return ("ring", rng.choice(barring))
        if rng.random() < 0.6:
            priced = [ring for ring in rings if weights[ring[0][0]]]
            return ("prices", tuple([(weights[ring[0][0]], ring) for ring in rng.sample(priced, min(2, len(priced)))]))
        return ("prices", some_prices(rng, rings))
    s = rng.choice(wide)
    least, most = windows[s]
    cut = rng.choice((least, most - 1, rng.randint(least, most - 1)))
    sides = [some_cases(rng, period, rings, weights, inner, depth - 1) for inner in split_windows(windows, s, cut)]
    return ("split", s, cut, sides[0], sides[1])


def ends_shown(plan, period, weights, cases, windows):
    """What each end with prices shows, in order."""
    if cases[0] == "split":
        under, above = split_windows(windows, cases[1], cases[2])
        return ends_shown(plan, period, weights, cases[3], under) + ends_shown(plan, period, weights, cases[4], above)
    return [slow_shown(plan, period, weights, windows, cases[1])] if cases[0] == "prices" else []


def changed_node(rng, cases, rings):
    """These cases with one node changed, perhaps to a right one."""
    path = rng.choice(list(node_paths(cases)))
    node = at_path(cases, path)
    prices = some_prices(rng, rings)
    news = [
        node[:-1], ("ring", rng.choice(rings)), ("prices", prices), ("prices", prices + ((0, rng.choice(rings)),)),
        ("prices", prices + ((1, rng.choice(rings)[1:]),)), put(node, (1,), rng.randint(-1, 4)),
        ("ring", rng.choice(rings)[1:]),
    ]
    if len(node) == 5:
        news += [put(node, (2,), rng.randint(-1, 9)), node[:3] + (node[4], node[3]), node[3], node[4]]
    return put(cases, path, rng.choice(news))


class WaitChecker(unittest.TestCase):

    def let_by(self, plan, period, weights, bound, thing):
        shown = repr((plan, weights, thing))
        self.assertIs(lets_waits(plan, period, weights, bound, thing), True)
        self.assertEqual(repr((plan, weights, thing)), shown)

    def not_let(self, word, at, plan, period, weights, bound, thing):
        shown = repr((plan, weights, thing))
        refusal = refused(lets_waits, plan, period, weights, bound, thing)
        self.assertIs(type(refusal), NoPaper)
        self.assertIsInstance(refusal, PlanError)
        self.assertEqual((refusal.word, refusal.at), (word, at))
        self.assertIs(type(refusal.at), int)
        self.assertEqual(repr((plan, weights, thing)), shown)

    def same_as_slow(self, plan, period, weights, bound, thing):
        """The fault that is told, which is the one that the document tells."""
        def price_word(windows, prices):
            if not slow_are_prices(plan, prices):
                return "price"
            return None if slow_shown(plan, period, weights, windows, prices) >= bound else "bound"

        fault = slow_fault(plan, period, (), (), thing, price_word)
        if fault is None:
            self.let_by(plan, period, weights, bound, thing)
        else:
            self.not_let(fault[0], fault[1], plan, period, weights, bound, thing)
        return fault

    def test_the_bound_at_its_edge(self):
        for bound in (70, 69, 0, -1, -70, -FORTY):
            self.let_by(PAIR, 100, EVEN, bound, END)
        for bound in (71, 72, 170, FORTY):
            self.not_let("bound", 0, PAIR, 100, EVEN, bound, END)
        for bound in (0, -1, -FORTY):
            self.let_by(PAIR, 100, EVEN, bound, LAME)
        for bound in (1, 70, FORTY):
            self.not_let("bound", 0, PAIR, 100, EVEN, bound, LAME)
        self.let_by((("a",), ()), 7, (), 0, LAME)
        self.not_let("bound", 0, (("a",), ()), 7, (), 1, LAME)

    def test_bounds_far_below_nothing(self):
        # A price without weight: what is left is below 0, and counts by the windows' mosts.
        thing = ("prices", ((999, BOTH),))
        shown = 999 * 70 - 998 * 99 * 2
        self.let_by(PAIR, 100, EVEN, shown, thing)
        self.not_let("bound", 0, PAIR, 100, EVEN, shown + 1, thing)
        self.let_by(PAIR, 100, EVEN, shown - 1, thing)

    def test_ends_beneath_splits(self):
        # What the ring leaves of the first weight counts from the cut on.
        weights = (2, 1, 0)
        for cut in (10, 11, 30, 79):
            thing = ("split", 0, cut, END, END)
            self.let_by(PAIR, 100, weights, 70, thing)
            self.not_let("bound", 1, PAIR, 100, weights, 71, thing)
            self.let_by(PAIR, 100, weights, 70, ("split", 0, cut, ("split", 2, 5, END, END), END))
            self.not_let("bound", 2, PAIR, 100, weights, 71, ("split", 0, cut, ("split", 2, 5, END, END), END))
            # A ring in the place of the lower side doesn't bar, but is looked at ahead of the upper one.
            self.not_let("bar", 1, PAIR, 100, weights, 71, ("split", 0, cut, ("ring", BOTH), END))
            self.assertEqual(ends_shown(PAIR, 100, weights, thing, slow_windows(PAIR, 100)), [70, 70 + cut - 9])
        # Beyond, the lengths come to 200 rather than 100.
        thing = ("split", 0, 80, END, END)
        self.assertEqual(ends_shown(PAIR, 100, weights, thing, slow_windows(PAIR, 100)), [70, 170 + 71])

    def test_ends_beside_rings(self):
        # The first span is from 10 to 20 long, the second one 100 more; or both are alike, from 50 on.
        plan = (("a", "b"), (("span", 0, 1, 10, 109), ("span", 0, 1, 50, 120)))
        short = ("prices", ((1, ((1, 1), (0, -1))),))
        bars = ("ring", ((0, 1), (1, -1)))
        thing = ("split", 0, 20, short, ("split", 0, 49, bars, LAME))
        for bound in (40, 39, 0, -FORTY):
            self.let_by(plan, 100, (1, 1), bound, thing)
        for bound in (41, 60):
            self.not_let("bound", 4, plan, 100, (1, 1), bound, thing)
        self.not_let("bound", 1, plan, 100, (1, 1), 61, thing)
        self.not_let("bound", 1, plan, 100, (1, 1), 40, put(thing, (3,), LAME))
        self.not_let("bound", 3, plan, 100, (1, 1), 40, put(thing, (4, 3), LAME))
        self.not_let("bar", 4, plan, 100, (1, 1), 40, put(thing, (4, 4), bars))
        self.not_let("bar", 1, plan, 100, (1, 1), 40, put(thing, (3,), bars))
        for cut, at in ((49, 0), (50, 3), (48, 4)):
            moved = put(thing, (4, 2), cut)
            if at:
                self.not_let("bar" if at == 3 else "bound", at, plan, 100, (1, 1), 40, moved)
            else:
                self.let_by(plan, 100, (1, 1), 40, moved)

    def test_rings_alone(self):
        for bound in (0, 1, 70, -FORTY, FORTY):
            self.let_by(VAIN, 100, (1, 1, 1), bound, BARS)
            self.let_by(VAIN, 100, (0, 0, 0), bound, ("split", 2, 50, BARS, ("split", 0, 7, BARS, BARS)))
            self.not_let("bar", 0, PAIR, 100, EVEN, bound, ("ring", BOTH))
        self.not_let("bound", 2, VAIN, 100, (1, 1, 1), FORTY, ("split", 2, 50, BARS, LAME))

    def test_void_windows(self):
        plan = (("a", "b"), (("apart", 0, 1, 60, 41),))
        for bound in (-FORTY, 0, FORTY):
            self.let_by(plan, 100, (1,), bound, ("ring", ((0, 1), (0, -1))))
        self.let_by(plan, 100, (1,), 0, LAME)
        self.not_let("bound", 0, plan, 100, (1,), 1, LAME)
        self.not_let("cut", 0, plan, 100, (1,), 0, ("split", 0, 59, LAME, LAME))
        self.not_let("cut", 0, plan, 100, (1,), 0, ("split", 0, 60, LAME, LAME))

    def test_shapes(self):
        for thing in plain_things():
            self.same_as_slow(PAIR, 100, EVEN, 70, thing)
            self.same_as_slow(PAIR, 100, EVEN, 70, ("split", 0, 50, thing, END))
            self.same_as_slow(PAIR, 100, EVEN, 70, ("split", 0, 50, END, thing))
        prices = END[1]
        for thing in (
            ("prices",), ("prices", prices, prices), ["prices", prices], ("price", prices), (None, prices), prices, BOTH,
            ("prices", 0, 50, END, END), ("split", prices), ("rings", BOTH), ("ring",), ("ring", BOTH, BOTH), list(END),
            ("split", 0, 50, END), ("split", 0, 50, END, END, END), ["split", 0, 50, END, END], {"prices": prices},
            ("stay", 0, END, END), ("enough",), (("prices",), prices), "prices", ("", prices), (True, prices), None,
        ):
            self.not_let("shape", 0, PAIR, 100, EVEN, 70, thing)
            self.not_let("shape", 1, PAIR, 100, EVEN, 70, ("split", 0, 50, thing, END))
            self.not_let("shape", 2, PAIR, 100, EVEN, 70, ("split", 0, 50, END, thing))

    def test_things_in_the_place_of_prices(self):
        for thing in plain_things() + [BOTH, END, 1, 0, "prices"]:
            if thing != ():
                self.not_let("price", 0, PAIR, 100, EVEN, -FORTY, ("prices", thing))
                self.not_let("price", 2, PAIR, 100, EVEN, 70, ("split", 0, 50, END, ("prices", thing)))
        for prices in (
            ((0, BOTH),), ((1000, BOTH),), ((-1, BOTH),), ((True, BOTH),), ((1, BOTH[:1]),), ((1, ()),), ((1, BOTH),) * 25,
            ((1, BOTH, BOTH),), ((1,),), (1, BOTH), [(1, BOTH)], ([1, BOTH],), ((1, list(BOTH)),), ((1, ((3, 1),)),),
            ((1, BOTH), (0, BOTH)), ((1, (("home", 0, 0),)),), ((1, ((0, 1), ("home", 1, 0))),), ((1, ((2, 1),) * 61),),
            ((1, BOTH), None), (None, (1, BOTH)), ((1, ((2, True),)),), ((1, ((False, 1), (1, 1))),),
        ):
            self.not_let("price", 0, PAIR, 100, EVEN, -FORTY, ("prices", prices))
            self.not_let("price", 0, PAIR, 100, EVEN, FORTY, ("prices", prices))
        for many in (1, 2, 23, 24):
            self.let_by(PAIR, 100, (many, many, 0), 70 * many, ("prices", ((1, BOTH),) * many))
            self.not_let("bound", 0, PAIR, 100, (many, many, 0), 70 * many + 1, ("prices", ((1, BOTH),) * many))
        self.let_by(PAIR, 100, (0, 0, 99), -FORTY, ("prices", ((999, ((2, 1),) * 60),)))
        for thing in list(with_lists(END)) + list(with_truths(END)):
            self.assertIsNotNone(self.same_as_slow(PAIR, 100, EVEN, 70, thing))

    def test_things_in_the_place_of_rings(self):
        for thing in plain_things():
            self.not_let("ring", 0, VAIN, 100, (1, 1, 1), 0, ("ring", thing))
        for ring in ((), ((0, 1),), (("home", 0, 0),), ((0, 1), ("home", 1, 0)), [(0, 1), (1, -1)], ((0, True), (1, -1))):
            self.not_let("ring", 0, VAIN, 100, (1, 1, 1), 0, ("ring", ring))
            self.not_let("ring", 1, VAIN, 100, (1, 1, 1), 0, ("split", 0, 5, ("ring", ring), BARS))

    def test_spans_and_cuts(self):
        for s in (-1, 3, 4, FORTY, True, False, None, "0", (0,), [], {}):
            self.not_let("span", 0, PAIR, 100, EVEN, 70, ("split", s, 50, END, END))
        for cut in (10, 11, 107, 108):
            self.let_by(PAIR, 100, EVEN, 70, ("split", 0, cut, END, END))
        for cut in (9, 109, 0, -1, FORTY, -FORTY, True, None, "50", (50,), [50]):
            self.not_let("cut", 0, PAIR, 100, EVEN, 70, ("split", 0, cut, END, END))
        self.not_let("cut", 1, PAIR, 100, EVEN, 70, ("split", 0, 50, ("split", 0, 50, END, END), END))
        self.not_let("cut", 2, PAIR, 100, EVEN, 70, ("split", 0, 50, END, ("split", 0, 50, END, END)))
        self.let_by(PAIR, 100, EVEN, 70, ("split", 0, 50, ("split", 0, 49, END, END), ("split", 0, 51, END, END)))
        self.not_let("span", 0, (("a",), ()), 7, (), 0, ("split", 0, 0, LAME, LAME))

    def test_two_faults_at_once(self):
        for word, at, bound, thing in (
            ("price", 0, FORTY, ("prices", ((0, BOTH),))), ("shape", 0, FORTY, ("prices", ((0, BOTH),), 0)),
            ("span", 0, FORTY, ("split", 9, -5, LAME, LAME)), ("cut", 0, FORTY, ("split", 0, -5, LAME, None)),
            ("bound", 1, 70, ("split", 0, 50, LAME, None)), ("shape", 1, 70, ("split", 0, 50, None, LAME)),
            ("price", 1, 70, ("split", 0, 50, ("prices", None), ("ring", None))),
            ("ring", 1, 70, ("split", 0, 50, ("ring", None), ("prices", None))),
            ("bar", 1, 70, ("split", 0, 50, ("ring", BOTH), ("prices", None))),
            ("bound", 2, 70, ("split", 0, 50, END, LAME)), ("price", 2, 70, ("split", 0, 50, END, ("prices", 5))),
            ("cut", 1, 70, ("split", 0, 50, ("split", 0, 50, None, None), LAME)),
            ("bound", 3, 70, ("split", 0, 50, ("split", 0, 40, END, LAME), LAME)),
            ("bound", 4, 70, ("split", 0, 50, ("split", 0, 40, END, END), LAME)),
            ("span", 4, 70, ("split", 0, 50, ("split", 0, 40, END, END), ("split", 3, 0, LAME, LAME))),
        ):
            self.not_let(word, at, PAIR, 100, EVEN, bound, thing)

    def test_each_node_changed(self):
        cases = ("split", 0, 50, ("split", 1, 70, END, ("split", 0, 20, END, END)), ("split", 2, 9, END, END))
        self.let_by(PAIR, 100, EVEN, 70, cases)
        for number, path in enumerate(node_paths(cases)):
            self.not_let("shape", number, PAIR, 100, EVEN, 70, put(cases, path, list(at_path(cases, path))))
            self.not_let("span", number, PAIR, 100, EVEN, 70, put(cases, path, ("split", 3, 0, END, END)))
            self.not_let("cut", number, PAIR, 100, EVEN, 70, put(cases, path, ("split", 1, 119, END, END)))
            self.not_let("ring", number, PAIR, 100, EVEN, 70, put(cases, path, ("ring", BOTH[1:])))
            self.not_let("bar", number, PAIR, 100, EVEN, 70, put(cases, path, ("ring", ((2, 1), (2, -1)))))
            self.not_let("price", number, PAIR, 100, EVEN, 70, put(cases, path, ("prices", ((0, BOTH),))))
            self.not_let("bound", number, PAIR, 100, EVEN, 70, put(cases, path, ("prices", ((1, ((2, -1),)),))))
            for thing in plain_things():
                self.same_as_slow(PAIR, 100, EVEN, 70, put(cases, path, thing))

    def test_everything_changed(self):
        cases = ("split", 0, 50, END, ("split", 1, 70, ("prices", ((1, BOTH), (3, ((2, 1),)))), END))
        for path in paths_of(cases):
            for new in plain_things() + [0, 1, 2, 50, 70, 1000, END, LAME, BARS, BOTH]:
                for bound in (70, -FORTY):
                    self.same_as_slow(PAIR, 100, EVEN, bound, put(cases, path, new))

    def test_a_hundred_within_one_another(self):
        for side in ("lower", "upper"):
            for depth in (1, 2, 50, 99, 100):
                last = 2 * (depth - 1) if side == "upper" else depth - 1
                cases = chain(depth, side, END, END, 2)
                self.assertEqual(depth_of(cases), depth)
                self.let_by(PAIR, 100, EVEN, 70, cases)
                self.not_let("bound", 1 if side == "upper" and depth > 1 else last, PAIR, 100, EVEN, 71, cases)
                for word, inner in (
                    ("shape", None), ("bound", LAME), ("price", ("prices", None)), ("ring", ("ring", ())),
                    ("bar", ("ring", BOTH)), ("span", ("split", 3, 0, END, END)), ("cut", ("split", 2, -1, END, END)),
                ):
                    self.not_let(word, last, PAIR, 100, EVEN, 70, chain(depth, side, inner, END, 2))
        # Deep within, the window there counts: one length is left of the third span.
        for side, left in (("upper", 99), ("lower", 0)):
            cases = chain(100, side, LAME, BARS, 2)
            self.let_by(VAIN, 100, (0, 0, 7), 7 * left, cases)
            self.not_let("bound", 198 if side == "upper" else 99, VAIN, 100, (0, 0, 7), 7 * left + 1, cases)

    def test_thousands_of_nodes(self):
        def halved(least, most, s, within):
            if least == most:
                return within
            cut = (least + most) // 2
            return ("split", s, cut, halved(least, cut, s, within), halved(cut + 1, most, s, within))

        cases = halved(10, 109, 0, halved(20, 119, 1, END))
        self.assertEqual(nodes_of(cases), 19999)
        self.let_by(PAIR, 100, EVEN, 70, cases)
        paths = list(node_paths(cases))
        for number in (1, 100, 9998, 12345, 19998):
            self.not_let("shape", number, PAIR, 100, EVEN, 70, put(cases, paths[number], None))
            self.not_let("price", number, PAIR, 100, EVEN, 70, put(cases, paths[number], ("prices", 1)))

    def test_any_cases_and_what_they_show(self):
        rng = seeded("any waits")
        seen = {}
        for _ in range(2000):
            period = rng.randint(1, 7)
            plan = some_plan(rng, rng.randint(1, 3), rng.randint(1, 4), rng.choice((period, 2 * period)))
            if rng.random() < 0.6:
                plan = kept_plan(rng, plan, period, some_beats(rng, plan, period), rng.choice((1, period)))
            weights = some_weights(rng, plan)
            rings = some_rings(rng, plan, ())
            if not rings:
                continue
            windows = slow_windows(plan, period)
            cases = some_cases(rng, period, rings, weights, windows, 5)
            least = min(ends_shown(plan, period, weights, cases, windows), default=0)
            for bound in (least - 1, least, least + 1, -FORTY, FORTY, rng.randint(-9, 99)):
                for thing in (cases, changed_node(rng, cases, rings)):
                    fault = self.same_as_slow(plan, period, weights, bound, thing)
                    word = fault[0] if fault else "right"
                    seen[word] = seen.get(word, 0) + 1
                    self.shows_it(plan, period, weights, bound, fault)
        for word in ("right", "shape", "span", "cut", "ring", "bar", "price", "bound"):
            self.assertGreater(seen.get(word, 0), 50, word)
        self.assertGreater(seen["right"], 2000)

    def shows_it(self, plan, period, weights, bound, fault):
        """Where cases are let by, no beats that keep all spans wait less."""
        if fault is None:
            for beats in all_beats(plan, period):
                if slow_keeps(plan, period, beats):
                    self.assertGreaterEqual(slow_waits(plan, period, weights, beats), bound)

    def test_no_bound_above_the_least_waits(self):
        rng = seeded("above")
        tried = 0
        for _ in range(400):
            plan, period = free_small(rng)
            rings = some_rings(rng, plan, ())
            times = slow_all_times(plan, period)
            if not times or not rings:
                continue
            weights = some_weights(rng, plan)
            least = min(slow_waits(plan, period, weights, row) for row in times)
            for _ in range(5):
                tried += 1
                cases = some_cases(rng, period, rings, weights, slow_windows(plan, period), 5)
                refusal = refused(lets_waits, plan, period, weights, least + 1, cases)
                self.assertIs(type(refusal), NoPaper)
        self.assertGreater(tried, 200)

    def test_asked_again(self):
        for _ in range(3):
            self.let_by(PAIR, 100, EVEN, 70, END)
            self.not_let("bound", 0, PAIR, 100, EVEN, 71, END)
            self.let_by(VAIN, 100, (1, 1, 1), 5, BARS)
            self.not_let("bar", 0, PAIR, 100, EVEN, 70, ("ring", BOTH))


if __name__ == "__main__":
    unittest.main()
