"""[22], [5] The least waits: times that have them, cases that none wait less, or that there are no times."""

import unittest

from beatplans.errors import NoPaper
from beatplans.moving import plan_turned
from beatplans.nonechecker import lets_none
from beatplans.plans import are_beats, unkept
from beatplans.prices import waits_of
from beatplans.waitchecker import lets_waits
from beatplans.waiting import least_waits
from tests.helpers import (
    NAMES, all_beats, depth_of, forbidding, free_small, kept_plan, line, nodes_of, plan_is_refused, refused, seeded,
    slow_all_times, slow_keeps, slow_length, slow_parts, slow_size, slow_waits, some_beats, some_plan, some_weights, tracks,
)


class Least(unittest.TestCase):

    def told(self, plan, period, weights):
        """The least waits that are told, None of no times; what is told is right."""
        shown = repr((plan, weights))
        answer = least_waits(plan, period, weights)
        self.assertEqual(repr((plan, weights)), shown)
        self.assertIs(type(answer), tuple)
        cases = answer[-1]
        self.assertLessEqual(nodes_of(cases), 20000)
        self.assertLessEqual(depth_of(cases), 100)
        rows = slow_all_times(plan, period)
        if answer[0] == "none":
            self.assertEqual(len(answer), 2)
            self.assertIs(lets_none(plan, period, cases), True)
            self.assertEqual(rows, [])
            return None
        word, waits, times, cases = answer
        self.assertEqual(word, "least")
        self.assertIs(type(waits), int)
        self.assertIs(are_beats(plan, period, times), True)
        self.assertIsNone(unkept(plan, period, times))
        self.assertTrue(slow_keeps(plan, period, times))
        self.assertEqual(slow_waits(plan, period, weights, times), waits)
        self.assertEqual(waits_of(plan, period, weights, times), waits)
        self.assertEqual(min(slow_waits(plan, period, weights, row) for row in rows), waits)
        self.assertIs(lets_waits(plan, period, weights, waits, cases), True)
        self.assertIs(type(refused(lets_waits, plan, period, weights, waits + 1, cases)), NoPaper)
        return waits

    def test_told_by_hand(self):
        pair = (("span", 0, 1, 10, 109), ("span", 1, 0, 20, 119))
        for plan, period, weights, waits in (
            ((("a",), ()), 600, (), 0), ((NAMES, ()), 600, (), 0), ((("a",), ()), 1, (), 0),
            ((NAMES[:2], pair), 100, (1, 1), 70), ((NAMES[:2], pair), 100, (2, 1), 70), ((NAMES[:2], pair), 100, (99, 98), 98 * 70),
            ((NAMES[:2], pair), 100, (0, 99), 0), ((NAMES[:2], pair), 100, (0, 0), 0), ((NAMES[:2], pair), 300, (1, 1), None),
            ((NAMES[:2], pair), 30, (5, 5), 0), ((NAMES[:2], pair), 31, (5, 4), 4),
            ((NAMES[:1], (("span", 0, 0, 7, 99),)), 60, (3,), 3 * 53), ((NAMES[:1], (("span", 0, 0, 0, 99),)), 60, (3,), 0),
            ((NAMES[:1], (("span", 0, 0, 7, 50),)), 60, (3,), None),
            ((NAMES[:2], (("span", 0, 1, 2, 9), ("span", 0, 1, 5, 9))), 20, (1, 1), 3),
            ((NAMES[:2], (("span", 0, 1, 2, 9), ("span", 0, 1, 5, 9))), 20, (0, 1), 0),
            ((NAMES[:2], (("span", 0, 1, 2, 9), ("span", 0, 1, 2, 9))), 20, (9, 9), 0),
            ((NAMES[:2], (("span", 0, 1, 2, 9), ("span", 1, 0, 2, 9))), 20, (9, 9), None),
            ((NAMES[:2], (("span", 0, 1, 9999, 9999), ("span", 0, 1, 0, 299))), 300, (99, 99), 99 * 99),
        ):
            self.assertEqual(self.told(plan, period, weights), waits)

    def test_great_rounds_of_two_works(self):
        for period in (100, 101, 199, 200, 299, 300):
            for weights in ((0, 0, 0), (1, 0, 0), (0, 99, 0), (1, 1, 1), (99, 1, 50), (3, 5, 7)):
                spans = (("span", 0, 1, 7, 9999), ("span", 1, 0, 11, 9999), ("apart", 0, 1, 30, 40))
                self.assertIsNotNone(self.told((NAMES[:2], spans), period, weights))
                self.assertIsNotNone(self.told((NAMES[:2], spans[::-1]), period, weights))
            self.assertEqual(self.told(forbidding(period, [(0, 4), (6, period - 1)], 3), period, (1, 2)), 2 * 5 + 0)
            self.assertIsNone(self.told(forbidding(period, [(0, 5), (6, period - 1)], 3), period, (1, 2)))

    def test_dense_plans_of_two_works(self):
        rng = seeded("two works")
        some = 0
        for _ in range(60):
            period = rng.choice((100, 150, 299, 300))
            spans = []
            for _ in range(rng.randint(1, 24)):
                low = rng.randint(0, 2 * period)
                spans.append(("span", *rng.sample((0, 1), 2), low, low + rng.randint(period * 3 // 4, period - 1)))
            plan = (NAMES[:2], tuple(spans))
            some += self.told(plan, period, some_weights(rng, plan)) is not None
        self.assertGreater(some, 20)

    def test_one_weight_alone(self):
        rng = seeded("one weight")
        for _ in range(60):
            plan, period = free_small(rng)
            rows = slow_all_times(plan, period)
            for s, span in enumerate(plan[1]):
                for weight in (1, 99):
                    weights = tuple([weight if s == other else 0 for other in range(len(plan[1]))])
                    least = min([slow_length(span, period, times) - span[3] for times in rows], default=None)
                    told = self.told(plan, period, weights)
                    self.assertEqual(told, None if least is None else least * weight)

    def test_no_weight_and_full_weight(self):
        rng = seeded("full weight")
        for _ in range(150):
            plan, period = free_small(rng)
            self.assertIn(self.told(plan, period, (0,) * len(plan[1])), (0, None))
            ones = self.told(plan, period, (1,) * len(plan[1]))
            full = self.told(plan, period, (99,) * len(plan[1]))
            self.assertEqual(full, None if ones is None else 99 * ones)

    def test_any_plans(self):
        rng = seeded("least waits")
        seen = {"least": 0, "none": 0, "parts": 0}
        for _ in range(500):
            plan, period = free_small(rng)
            told = self.told(plan, period, some_weights(rng, plan))
            seen["none" if told is None else "least"] += 1
            seen["parts"] += told is not None and 1 < len(slow_parts(plan)) < len(plan[0])
        self.assertGreater(min(seen.values()), 30)

    def test_kept_plans_with_much_to_choose(self):
        rng = seeded("much to choose")
        above = 0
        for _ in range(250):
            works, period = rng.choice(((2, 40), (3, 9), (3, 17), (4, 6), (5, 4), (6, 3), (7, 2), (8, 2)))
            plan = some_plan(rng, works, rng.randint(works, 24), 2 * period)
            plan = kept_plan(rng, plan, period, some_beats(rng, plan, period), period)
            above += self.told(plan, period, some_weights(rng, plan)) > 0
        self.assertGreater(above, 100)

    def test_small_plans_gone_through(self):
        rng = seeded("small waits")
        for _ in range(300):
            period = rng.randint(1, 5)
            plan = some_plan(rng, rng.randint(1, 4), rng.randint(0, 6), 2 * period)
            if slow_size(plan, period, ()) > 300:
                continue
            weights = some_weights(rng, plan)
            every = [
                slow_waits(plan, period, weights, beats) for beats in all_beats(plan, period)
                if slow_keeps(plan, period, beats)
            ]
            self.assertEqual(self.told(plan, period, weights), min(every, default=None))

    def test_several_parts_add_up(self):
        # Two pairs that nothing joins, a work alone, one with itself: the waits of each are least.
        pair = (("span", 0, 1, 3, 9), ("span", 1, 0, 4, 12))
        both = pair + (("span", 3, 2, 3, 9), ("span", 2, 3, 4, 12))
        for period in (7, 9, 12, 15, 17):
            alone = self.told((NAMES[:2], pair), period, (2, 3))
            self.assertIsNotNone(alone)
            self.assertEqual(self.told((NAMES[:6], both), period, (2, 3, 2, 3)), 2 * alone)
            self.assertEqual(self.told((NAMES[:6], both), period, (2, 3, 0, 0)), alone)
            self.assertEqual(self.told((NAMES[:6], both + (("span", 5, 5, 0, 1),)), period, (2, 3, 0, 0, 9)), alone)
            waits = 9 * (period - 1)
            self.assertEqual(self.told((NAMES[:6], both + (("span", 5, 5, 1, 99),)), period, (2, 3, 0, 0, 9)), alone + waits)
            self.assertIsNone(self.told((NAMES[:6], both + (("span", 5, 5, 1, period - 1),)), period, (2, 3, 0, 0, 9)))

    def test_void_windows(self):
        for one, other in ((0, 0), (0, 1), (1, 0), (1, 2)):
            void = ("apart", one, other, 60, 41)
            wide = ("span", 0, 1, 0, 9999)
            self.assertIsNone(self.told((NAMES[:3], (void,)), 17, (1,)))
            self.assertIsNone(self.told((NAMES[:3], (wide, void)), 17, (0, 0)))
            self.assertIsNone(self.told((NAMES[:3], (void, wide)), 17, (99, 1)))

    def test_single_tracks(self):
        for works, period in ((2, 300), (3, 17), (4, 6), (5, 4), (6, 3), (8, 2), (8, 1)):
            plan = tracks(works, 1)
            told = self.told(plan, period, (1,) * len(plan[1]))
            self.assertEqual(told is None, works > period)

    def test_turned_about(self):
        rng = seeded("waits turned")
        for _ in range(100):
            plan, period = free_small(rng)
            weights = some_weights(rng, plan)
            self.assertEqual(self.told(plan, period, weights), self.told(plan_turned(plan), period, weights))

    def test_too_many(self):
        for plan, period, many in (
            (line(2, 2), 300, False), (line(2, 2), 301, True), (line(2, 2), 600, True), (line(3, 3), 17, False),
            (line(3, 3), 18, True), (line(8, 8), 2, False), (line(8, 8), 3, True), (line(8, 8), 600, True),
            (line(8, 1), 600, False), (line(8, 2), 300, False), (line(8, 2), 301, True), (line(8, 8), 1, False),
            ((NAMES[:2], (("apart", 0, 1, 9999, 9999),)), 301, True),
            ((NAMES[:2], (("span", 0, 1, 1, 1), ("span", 0, 1, 2, 2))), 301, True),
        ):
            for weight in (0, 1, 99):
                plan_is_refused(self, many, refused(least_waits, plan, period, (weight,) * len(plan[1])))

    def test_too_many_just_where_the_size_is(self):
        rng = seeded("too many waits")
        for _ in range(200):
            plan = some_plan(rng, rng.randint(1, 8), rng.choice((0, 1, 2, 4, 6)), 9999)
            period = rng.choice((1, 2, 3, 4, 6, 17, 18, 299, 300, 301, 600))
            refusal = refused(least_waits, plan, period, some_weights(rng, plan))
            plan_is_refused(self, slow_size(plan, period, ()) > 300, refusal)

    def test_asked_again_behind_other_plans(self):
        plans = [(tracks(3, 2), 8, (1, 2, 3)), (line(3, 3), 4, (5, 5)), (tracks(3, 3), 8, (1, 1, 1)), (tracks(3, 2), 7, (3, 2, 1))]
        first = [self.told(*one) for one in plans]
        for _ in range(3):
            refused(least_waits, line(8, 8), 600, (1,) * 7)
            self.assertEqual([self.told(*one) for one in plans[::-1]], first[::-1])


if __name__ == "__main__":
    unittest.main()
