"""[20] Waits of beats, prices, and what they show by windows."""

import unittest

from beatplans.plans import windows_of
from beatplans.prices import are_prices, shown_by, waits_of
from tests.helpers import (
    FORTY, NAMES, all_beats, kept_plan, paths_of, plain_things, put, seeded, slow_are_prices, slow_length, slow_shown,
    slow_waits, slow_windows, some_beats, some_plan, some_prices, some_rings, some_weights, with_lists, with_truths,
)

# a to b, b to c, c to a, c to itself, a to b again.
PLAN = (("a", "b", "c"), (
    ("span", 0, 1, 3, 5), ("span", 1, 2, 4, 9), ("span", 2, 0, 2, 6), ("apart", 2, 2, 1, 2), ("span", 0, 1, 13, 15),
))
AROUND = ((0, 1), (1, 1), (2, 1))
TWO = ((0, 1), (4, -1))
SELF = ((3, 1),)


class Waits(unittest.TestCase):

    def test_told_by_hand(self):
        for plan, period, weights, beats, waits in (
            ((("a",), ()), 600, (), (7,), 0), ((NAMES, ()), 1, (), (0,) * 8, 0),
            ((("a", "b"), (("span", 0, 1, 3, 5),)), 10, (1,), (0, 3), 0),
            ((("a", "b"), (("span", 0, 1, 3, 5),)), 10, (1,), (0, 5), 2),
            ((("a", "b"), (("span", 0, 1, 3, 5),)), 10, (99,), (8, 3), 198),
            ((("a", "b"), (("span", 0, 1, 3, 5),)), 10, (7,), (0, 2), 63),
            ((("a", "b"), (("span", 0, 1, 3, 5),)), 10, (0,), (0, 2), 0),
            ((("a", "b"), (("span", 1, 0, 3, 5),)), 10, (1,), (0, 3), 4),
            ((("a", "b"), (("span", 0, 1, 9999, 9999),)), 600, (2,), (0, 398), 2 * 599),
            ((("a", "b"), (("apart", 0, 1, 3, 5),)), 10, (5,), (0, 9), 30),
            ((("a",), (("span", 0, 0, 1, 5),)), 10, (5,), (4,), 45), ((("a",), (("span", 0, 0, 0, 5),)), 10, (5,), (4,), 0),
            (PLAN, 10, (1, 10, 0, 99, 2), (0, 4, 9), 1 + 10 + 99 * 9 + 2),
        ):
            told = waits_of(plan, period, weights, beats)
            self.assertEqual(told, waits)
            self.assertIs(type(told), int)

    def test_against_a_slow_reckoning(self):
        rng = seeded("waits")
        for _ in range(1500):
            period = rng.choice((1, 2, 7, 60, 600))
            plan = some_plan(rng, rng.randint(1, 8), rng.choice((0, 1, 3, 24)), rng.choice((period, 1000)))
            weights = some_weights(rng, plan)
            beats = some_beats(rng, plan, period)
            shown = repr((plan, weights, beats))
            self.assertEqual(waits_of(plan, period, weights, beats), slow_waits(plan, period, weights, beats))
            self.assertEqual(repr((plan, weights, beats)), shown)


class ArePrices(unittest.TestCase):

    def same_as_slow(self, plan, thing):
        shown = repr(thing)
        self.assertIs(are_prices(plan, thing), slow_are_prices(plan, thing), thing)
        self.assertEqual(repr(thing), shown)

    def tells(self, right, *things):
        for thing in things:
            self.assertIs(are_prices(PLAN, thing), right, thing)
            self.same_as_slow(PLAN, thing)

    def test_prices(self):
        self.tells(True, (), ((1, AROUND),), ((999, TWO),), ((5, SELF), (5, SELF)), ((3, AROUND), (2, TWO), (998, SELF)))

    def test_how_many(self):
        for many in (0, 1, 2, 23, 24):
            self.tells(True, ((7, TWO),) * many, ((7, TWO), (1, SELF))[:many] * (many // 2))
        for many in (25, 26, 1000):
            self.tells(False, ((7, TWO),) * many)

    def test_the_price(self):
        for price in (1, 2, 998, 999):
            self.tells(True, ((price, AROUND),), ((5, SELF), (price, AROUND)))
        for price in (0, -1, 1000, 1001, FORTY, -FORTY, True, False, None, "1", "", (1,), [1], {}):
            self.tells(False, ((price, AROUND),), ((5, SELF), (price, AROUND)), ((price, AROUND), (5, SELF)))

    def test_the_ring(self):
        for ring in (
            ((0, 1), (0, -1)), ((0, -1), (4, 1)), AROUND[1:] + AROUND[:1], tuple([(s, -1) for s, _ in AROUND[::-1]]),
            SELF * 60, TWO * 30, ((3, 1), (3, -1)), SELF + ((2, 1), (0, 1), (1, 1)),
        ):
            self.tells(True, ((7, ring),), ((5, SELF), (7, ring)))
        for ring in (
            (), ((0, 1),), ((0, 1), (1, 1)), AROUND[::-1], SELF * 61, TWO * 31, ((0, 1), (4, 1)), ((5, 1),), ((-1, 1),),
            ((3, 0),), ((3, 2),), ((3, 1, 0),), ((3,),), (3, 1), SELF[0], ("home", 0, 0), (("home", 0, 0),),
            (("home", 2, 2), (3, 1)), ((0, 1), ("home", 1, 0)), ((0, 1), (1, 1), ("home", 2, 0)), ((True, 1), (1, 1), (2, 1)),
            ((3, True),), ((False, 1), (4, -1)), ((0, True), (4, -1)), [(3, 1)], ([3, 1],), None, 3, "ring", {},
        ):
            self.tells(False, ((7, ring),), ((5, SELF), (7, ring)), ((7, ring), (5, SELF)))

    def test_rings_of_other_plans(self):
        for plan in ((("a", "b", "c"), ()), (("a", "b", "c"), PLAN[1][:3]), (("a", "b", "c"), PLAN[1][::-1])):
            for thing in ((), ((7, AROUND),), ((7, TWO),), ((7, SELF),)):
                self.same_as_slow(plan, thing)
        self.assertIs(are_prices((("a",), ()), ()), True)
        self.assertIs(are_prices((("a",), ()), ((1, ()),)), False)
        self.assertIs(are_prices((("a",), ()), ((1, (("home", 0, 0),)),)), False)

    def test_any_thing_at_any_place(self):
        for thing in plain_things():
            self.same_as_slow(PLAN, thing)
            self.tells(False, (thing,), ((1, TWO), thing), (thing, (1, TWO)), ((1, thing),), ((thing, TWO),))
        right = ((7, AROUND), (1, TWO), (999, SELF))
        self.tells(True, right)
        for path in paths_of(right):
            for new in plain_things() + [0, 1, 2, 3, 1000, (), AROUND, TWO]:
                self.same_as_slow(PLAN, put(right, path, new))
        self.tells(False, *with_lists(right))
        self.tells(False, *with_truths(right))

    def test_pairs_of_other_lengths(self):
        self.tells(False, ((1,),), ((1, TWO, TWO),), ((TWO, 1),), (1, TWO), ((),), (((1, TWO),),), {1: TWO}, [(1, TWO)])


class Shown(unittest.TestCase):

    def shows(self, plan, period, weights, windows, prices):
        """What is told, which is what the document tells."""
        shown = repr((plan, weights, windows, prices))
        told = shown_by(plan, period, weights, windows, prices)
        self.assertEqual(told, slow_shown(plan, period, weights, windows, prices))
        self.assertIs(type(told), int)
        self.assertEqual(repr((plan, weights, windows, prices)), shown)
        return told

    def test_told_by_hand(self):
        windows = windows_of(PLAN, 20)
        self.assertEqual(windows, ((3, 5), (4, 9), (2, 6), (1, 18), (13, 15)))
        narrow = ((4, 5), (6, 7), (2, 2), (5, 5), (13, 14))
        none = (0, 0, 0, 0, 0)
        for weights, rows, prices, told in (
            (none, windows, (), 0), ((1, 2, 3, 4, 5), windows, (), 0), (none, narrow, (), 0),
            # Without prices: weight times what the least is above low.
            ((1, 2, 3, 4, 5), narrow, (), 1 + 4 + 0 + 16 + 0),
            # Around: 9 to 20, so 20 at least, which is 11 above the lows; all weight is priced away.
            ((1, 1, 1, 0, 0), windows, ((1, AROUND),), 11), ((9, 9, 9, 0, 0), windows, ((9, AROUND),), 99),
            # What is left of the weight counts from the least.
            ((3, 2, 1, 0, 0), narrow, ((1, AROUND),), 11 + 2 * 1 + 1 * 2),
            # What is left below 0 counts by the most.
            (none, windows, ((1, AROUND),), 11 - 2 - 5 - 4), (none, narrow, ((2, AROUND),), 22 - 2 * 2 - 2 * 3),
            # To and back again by the other span: from -12 to -8, so 0 at least, 10 above the lows.
            ((1, 0, 0, 0, 0), windows, ((1, TWO),), 10), ((1, 0, 0, 0, 1), windows, ((1, TWO),), 10),
            ((1, 0, 0, 0, 1), narrow, ((1, TWO),), 10),
            # Gone the other way round: from 8 to 12, so 20 at least; the lows are 10.
            ((0, 0, 0, 0, 1), windows, ((1, ((4, 1), (0, -1))),), 10), ((0, 0, 0, 0, 1), windows, ((1, ((0, -1), (4, 1))),), 10),
            # A span to itself, once, twice, in two prices.
            ((0, 0, 0, 1, 0), windows, ((1, SELF),), 19), ((0, 0, 0, 2, 0), windows, ((1, SELF * 2),), 18),
            ((0, 0, 0, 2, 0), windows, ((1, SELF), (1, SELF)), 38), ((0, 0, 0, 1, 0), windows, ((1, SELF), (1, SELF)), 38 - 17),
        ):
            self.assertEqual(self.shows(PLAN, 20, weights, rows, prices), told)
        self.assertEqual(self.shows((("a",), ()), 5, (), (), ()), 0)

    def test_rounds_at_their_edges(self):
        # The least whole rounds at or above the least sum: at it, one above it, of either sign.
        plan = (("a",), (("span", 0, 0, 7, 99),))
        for least in range(-25, 26):
            for way, window in ((1, (least, 50)), (-1, (-50, -least))):
                told = self.shows(plan, 10, (0,), (window,), ((1, ((0, way),)),))
                rounds = -(-least // 10) * 10
                left = 0 - way
                self.assertEqual(told, rounds - way * 7 + left * ((window[0] if left >= 0 else window[1]) - 7))
        for round_, least, told in ((1, 0, 0), (1, -3, -3), (600, 1, 600), (600, 600, 600), (600, -599, 0), (600, -600, -600)):
            plan = (("a",), (("span", 0, 0, 0, 9),))
            self.assertEqual(shown_by(plan, round_, (1,), ((least, 700),), ((1, ((0, 1),)),)), told)

    def test_what_is_left_of_nothing_counts_nothing(self):
        plan = (("a", "b"), (("span", 0, 1, 3, 5), ("span", 1, 0, 3, 5)))
        ring = ((0, 1), (1, 1))
        for windows in (((3, 5), (3, 5)), ((-FORTY, FORTY), (3, 5)), ((FORTY, -FORTY), (4, 4))):
            for price in (1, 50, 99):
                least = sum(least for least, _ in windows)
                self.assertEqual(
                    self.shows(plan, 20, (price, price), windows, ((price, ring),)),
                    price * (least + (-least) % 20 - 6),
                )

    def test_numbers_of_forty_figures(self):
        rng = seeded("forty")
        for _ in range(500):
            plan = some_plan(rng, rng.randint(1, 3), rng.randint(1, 5), 30)
            period = rng.randint(1, 20)
            windows = tuple([
                tuple([rng.choice((rng.randint(-FORTY, FORTY), FORTY, -FORTY, rng.randint(-9, 9))) for _ in "ab"])
                for _ in plan[1]
            ])
            self.shows(plan, period, some_weights(rng, plan), windows, some_prices(rng, some_rings(rng, plan, ())))

    def test_never_more_than_the_waits(self):
        rng = seeded("shown")
        exact = below = above = 0
        for _ in range(1500):
            period = rng.randint(1, 6)
            plan = some_plan(rng, rng.randint(1, 3), rng.randint(0, 5), rng.choice((period, 3 * period)))
            if rng.random() < 0.7:
                plan = kept_plan(rng, plan, period, some_beats(rng, plan, period), period)
            weights = some_weights(rng, plan)
            rings = some_rings(rng, plan, ())
            prices = some_prices(rng, rings)
            if rng.random() < 0.6:
                # Prices that leave little of the weights show more than any others.
                prices = tuple([
                    (weights[ring[0][0]], ring) for ring in rng.sample(rings, min(1, len(rings))) if weights[ring[0][0]]
                ])
            windows = list(slow_windows(plan, period))
            for s, (least, most) in enumerate(windows):
                by = rng.choice(("same", "same", "same", "narrow", "narrow", "wide", "forty", "void"))
                if by == "narrow" and least < most:
                    windows[s] = tuple(sorted([rng.randint(least, most), rng.randint(least, most)]))
                elif by == "wide":
                    windows[s] = (least - rng.randint(0, 9), most + rng.randint(0, 9))
                elif by == "forty":
                    windows[s] = rng.choice(((-FORTY, FORTY), (least, FORTY), (-FORTY, most)))
                elif by == "void" and rng.random() < 0.2:
                    windows[s] = (most + 1, least)
            told = self.shows(plan, period, weights, tuple(windows), prices)
            waits = []
            for beats in all_beats(plan, period):
                lengths = [slow_length(span, period, beats) for span in plan[1]]
                if all(least <= length <= most for length, (least, most) in zip(lengths, windows)):
                    waits.append(slow_waits(plan, period, weights, beats))
            if waits:
                self.assertLessEqual(told, min(waits))
                exact += told == min(waits) > 0
                below += told < 0
                above += told > 0
        self.assertGreater(exact, 20)
        self.assertGreater(below, 20)
        self.assertGreater(above, 20)

    def test_one_length_of_each_span_shows_the_waits(self):
        # Where each window holds the one length of the beats, any prices show just the waits.
        rng = seeded("one length")
        for _ in range(500):
            period = rng.randint(1, 20)
            plan = some_plan(rng, rng.randint(1, 4), rng.randint(0, 8), rng.choice((period, 3 * period)))
            weights = some_weights(rng, plan)
            beats = some_beats(rng, plan, period)
            lengths = [slow_length(span, period, beats) for span in plan[1]]
            prices = some_prices(rng, some_rings(rng, plan, ()))
            told = self.shows(plan, period, weights, tuple([(length, length) for length in lengths]), prices)
            self.assertEqual(told, slow_waits(plan, period, weights, beats))

    def test_asked_again(self):
        windows = windows_of(PLAN, 20)
        for _ in range(3):
            self.assertEqual(shown_by(PLAN, 20, (1, 1, 1, 0, 0), windows, ((1, AROUND),)), 11)
            self.assertEqual(shown_by(PLAN, 20, (1, 0, 0, 0, 0), windows, ((1, TWO),)), 10)
            self.assertEqual(waits_of(PLAN, 10, (1, 10, 0, 99, 2), (0, 4, 9)), 904)
            self.assertIs(are_prices(PLAN, ((1, TWO),)), True)


if __name__ == "__main__":
    unittest.main()
