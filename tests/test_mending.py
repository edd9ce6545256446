"""[26], [5] Beats mended: times that differ at fewest works, cases that none differ at fewer, or no times."""

import unittest

from beatplans.errors import NoPaper
from beatplans.mending import mended
from beatplans.movechecker import differing, lets_moved
from beatplans.moving import changed, shifted
from beatplans.nonechecker import lets_none
from beatplans.plans import are_beats, unkept
from tests.helpers import (
    NAMES, all_beats, depth_of, forbidding, free_small, kept_plan, line, nodes_of, plan_is_refused, refused, seeded,
    slow_all_times, slow_differing, slow_fewest, slow_keeps, slow_parts, slow_size, slow_times, some_beats, some_plan,
    some_span, tracks,
)


def through_all(plan, period, beats):
    """At how many works times differ at least, all beats gone through; None where there are no times."""
    return min(
        [slow_differing(row, beats) for row in all_beats(plan, period) if slow_keeps(plan, period, row)], default=None
    )


class Mended(unittest.TestCase):

    def told(self, plan, period, beats):
        """How many works are moved, None of no times; what is told is right."""
        shown = repr((plan, beats))
        answer = mended(plan, period, beats)
        self.assertEqual(repr((plan, beats)), shown)
        self.assertIs(type(answer), tuple)
        cases = answer[-1]
        self.assertLessEqual(nodes_of(cases), 20000)
        self.assertLessEqual(depth_of(cases), 100)
        fewest = slow_fewest(plan, period, beats)
        if answer[0] == "none":
            self.assertEqual(len(answer), 2)
            self.assertIs(lets_none(plan, period, cases), True)
            self.assertIsNone(fewest)
            return None
        word, times, cases = answer
        self.assertEqual(word, "mended")
        self.assertIs(are_beats(plan, period, times), True)
        self.assertIsNone(unkept(plan, period, times))
        self.assertTrue(slow_keeps(plan, period, times))
        moved = slow_differing(times, beats)
        self.assertEqual(differing(beats, times), moved)
        self.assertEqual(moved, fewest)
        self.assertIs(lets_moved(plan, period, beats, moved, cases), True)
        self.assertIs(type(refused(lets_moved, plan, period, beats, moved + 1, cases)), NoPaper)
        return moved

    def test_told_by_hand(self):
        row = (("a", "b", "c"), (("span", 0, 1, 2, 5), ("span", 1, 2, 2, 5)))
        pair = (("a", "b"), (("span", 0, 1, 3, 9), ("span", 1, 0, 4, 12)))
        for plan, period, beats, moved in (
            ((("a",), ()), 1, (0,), 0), ((("a",), ()), 600, (599,), 0), ((NAMES, ()), 600, (1, 2, 3, 4, 5, 6, 7, 8), 0),
            (row, 17, (0, 2, 4), 0), (row, 17, (0, 0, 0), 2), (row, 17, (0, 0, 2), 1), (row, 17, (0, 3, 3), 1),
            (row, 17, (0, 9, 6), 1), (row, 17, (16, 1, 5), 0), (row, 17, (16, 5, 10), 1), (row, 17, (0, 1, 11), 2),
            (pair, 15, (0, 3), 0), (pair, 15, (0, 0), 1), (pair, 15, (7, 2), 1), (pair, 22, (0, 0), None),
            ((("a",), (("span", 0, 0, 5, 16),)), 17, (9,), None), ((("a",), (("span", 0, 0, 5, 17),)), 17, (9,), 0),
            ((("a", "b"), (("span", 0, 1, 5, 5),) * 24), 300, (0, 4), 1), ((("a", "b"), (("span", 0, 1, 5, 5),) * 24), 300, (4, 9), 0),
        ):
            self.assertEqual(self.told(plan, period, beats), moved, (plan, period, beats))

    def test_beats_that_are_times(self):
        rng = seeded("mended times")
        tried = 0
        for _ in range(300):
            plan, period = free_small(rng)
            times = slow_times(plan, period, (), ())
            if times is not None:
                tried += 1
                by = rng.randrange(period)
                self.assertEqual(self.told(plan, period, times), 0)
                self.assertEqual(self.told(plan, period, tuple([(beat + by) % period for beat in times])), 0)
                self.assertEqual(mended(plan, period, times)[1], times)
        self.assertGreater(tried, 100)

    def test_beats_of_which_all_but_one_are_moved(self):
        # Each stands one beat behind the one ahead of it, and all beats are alike: one alone may stay.
        for works, period in ((2, 300), (2, 100), (3, 17), (4, 6), (5, 4), (6, 3), (8, 2)):
            plan = (NAMES[:works], tuple([("span", work, work + 1, 1, 1) for work in range(works - 1)]))
            for beat in (0, period - 1):
                alike = -(-works // period)
                self.assertEqual(self.told(plan, period, (beat,) * works), works - alike)

    def test_parts_moved_as_a_whole(self):
        # A part may stand anywhere: beats that are all moved by one number still are times.
        chain = tuple([("span", work, work + 1, 1, 1) for work in range(3)])
        plan = (NAMES[:4], chain)
        for by in range(6):
            self.assertEqual(self.told(plan, 6, shifted(6, (0, 1, 2, 3), by)), 0)
            self.assertEqual(self.told(plan, 6, shifted(6, (5, 1, 2, 3), by)), 1)
            self.assertEqual(self.told(plan, 6, shifted(6, (0, 1, 2, 4), by)), 1)
            self.assertEqual(self.told(plan, 6, shifted(6, (0, 1, 4, 5), by)), 2)
        # Two pairs, each moved by another number, and works alone.
        pairs = (NAMES[:8], (("span", 0, 3, 4, 4), ("span", 5, 2, 7, 7)))
        for one in range(0, 17, 4):
            for other in range(0, 17, 3):
                beats = (one, 9, (other + 7) % 17, (one + 4) % 17, 16, other, 0, 3)
                self.assertEqual(self.told(pairs, 17, beats), 0)
                for moved, many in (((0,), 1), ((1, 4, 6, 7), 0), ((2,), 1), ((2, 5), 0), ((0, 2), 2), ((0, 3, 5), 1)):
                    other_beats = tuple([(beat + (work in moved)) % 17 for work, beat in enumerate(beats)])
                    self.assertEqual(self.told(pairs, 17, other_beats), many)

    def test_eight_works(self):
        rng = seeded("eight works")
        seen = {}
        for _ in range(150):
            period = rng.choice((1, 2, 2, 2, 2))
            plan = some_plan(rng, 8, rng.choice((0, 3, 7, 12, 24)), 2 * period)
            plan = kept_plan(rng, plan, period, some_beats(rng, plan, period), rng.choice((0, 0, 1)))
            if rng.random() < 0.3:
                plan = (plan[0], (plan[1] + (some_span(rng, 8, 3),))[-24:])
            beats = some_beats(rng, plan, period)
            moved = self.told(plan, period, beats)
            self.assertEqual(moved, through_all(plan, period, beats))
            seen[moved] = seen.get(moved, 0) + 1
        for moved in (None, 0, 1, 2, 3, 4):
            self.assertGreater(seen.get(moved, 0), 2, moved)

    def test_two_works_of_great_rounds(self):
        rng = seeded("great rounds")
        for period in (100, 101, 199, 200, 299, 300):
            for _ in range(3):
                beats = (rng.randrange(period), rng.randrange(period))
                free = forbidding(period, [(0, 4), (6, period - 1)], 3)
                kept = (beats[1] - beats[0]) % period == 5
                self.assertEqual(self.told(free, period, beats), 0 if kept else 1)
                self.assertEqual(self.told(free, period, (beats[0], (beats[0] + 5) % period)), 0)
                self.assertIsNone(self.told(forbidding(period, [(0, 5), (6, period - 1)], 3), period, beats))
                self.assertIsNotNone(self.told((NAMES[:2], (("apart", 0, 1, 30, 40), ("span", 1, 0, 11, 99))), period, beats))

    def test_works_without_spans_and_with_themselves(self):
        for period in (1, 2, 17):
            for beats in ((0, 0, 0), (0, period - 1, period // 2)):
                self.assertEqual(self.told((NAMES[:3], ()), period, beats), 0)
                self.assertEqual(self.told((NAMES[:3], (("span", 1, 1, 0, 0),)), period, beats), 0)
                self.assertEqual(self.told((NAMES[:3], (("span", 1, 1, 1, period),)), period, beats), 0)
                self.assertEqual(self.told((NAMES[:3], (("apart", 2, 2, 0, 0),)), period, beats), 0)
                if period > 1:
                    self.assertIsNone(self.told((NAMES[:3], (("span", 1, 1, 1, period - 1),)), period, beats))
                    self.assertIsNone(self.told((NAMES[:3], (("span", 0, 1, 0, 99), ("apart", 2, 2, 1, 1))), period, beats))

    def test_void_windows(self):
        for one, other in ((0, 0), (0, 1), (1, 0), (1, 2)):
            void = ("apart", one, other, 60, 41)
            wide = ("span", 0, 1, 0, 9999)
            for spans in ((void,), (wide, void), (void, wide), (void, void)):
                self.assertIsNone(self.told((NAMES[:3], spans), 17, (0, 5, 16)))

    def test_single_tracks(self):
        for works, period in ((2, 300), (3, 17), (4, 6), (5, 4), (6, 3), (8, 2), (8, 1)):
            plan = tracks(works, 1)
            moved = self.told(plan, period, (0,) * works)
            self.assertEqual(moved, works - 1 if works <= period else None)

    def test_any_plans(self):
        rng = seeded("mended")
        seen = {}
        for _ in range(500):
            plan, period = free_small(rng)
            moved = self.told(plan, period, some_beats(rng, plan, period))
            seen[moved] = seen.get(moved, 0) + 1
            parts = slow_parts(plan)
            if moved and 1 < len(parts) < len(plan[0]):
                seen["parts"] = seen.get("parts", 0) + 1
        for key in (None, 0, 1, 2, "parts"):
            self.assertGreater(seen.get(key, 0), 10, key)

    def test_small_plans_gone_through(self):
        rng = seeded("small mended")
        for _ in range(300):
            period = rng.randint(1, 5)
            plan = some_plan(rng, rng.randint(1, 4), rng.randint(0, 6), 2 * period)
            if slow_size(plan, period, ()) > 300:
                continue
            beats = some_beats(rng, plan, period)
            self.assertEqual(self.told(plan, period, beats), through_all(plan, period, beats))

    def test_a_span_changes(self):
        rng = seeded("a span changes")
        seen = {}
        for _ in range(200):
            works, period = rng.choice(((2, 60), (3, 17), (4, 6), (5, 4), (6, 3)))
            plan = some_plan(rng, works, rng.randint(works, 12), 2 * period)
            plan = kept_plan(rng, plan, period, some_beats(rng, plan, period), rng.choice((1, period)))
            times = rng.choice(slow_all_times(plan, period))
            s = rng.randrange(len(plan[1]))
            moved = self.told(changed(plan, s, some_span(rng, works, 2 * period)), period, times)
            seen[moved] = seen.get(moved, 0) + 1
        for moved in (None, 0, 1):
            self.assertGreater(seen.get(moved, 0), 10, moved)

    def test_too_many(self):
        for plan, period, many in (
            (line(2, 2), 300, False), (line(2, 2), 301, True), (line(2, 2), 600, True), (line(3, 3), 17, False),
            (line(3, 3), 18, True), (line(8, 8), 2, False), (line(8, 8), 3, True), (line(8, 8), 600, True),
            (line(8, 1), 600, False), (line(8, 2), 300, False), (line(8, 2), 301, True), (line(8, 8), 1, False),
            ((NAMES[:2], (("apart", 0, 1, 9999, 9999),)), 301, True),
            ((NAMES[:2], (("span", 0, 1, 1, 1), ("span", 0, 1, 2, 2))), 301, True),
        ):
            for beat in (0, period - 1):
                plan_is_refused(self, many, refused(mended, plan, period, (beat,) * len(plan[0])))

    def test_too_many_where_the_beats_are_times(self):
        for works, period in ((2, 301), (3, 18), (4, 7), (5, 5), (8, 3), (8, 600)):
            self.assertTrue(slow_keeps(line(works, works), period, (0,) * works))
            plan_is_refused(self, True, refused(mended, line(works, works), period, (0,) * works))

    def test_too_many_just_where_the_size_is(self):
        rng = seeded("too many mended")
        for _ in range(200):
            plan = some_plan(rng, rng.randint(1, 8), rng.choice((0, 1, 2, 4, 6)), 9999)
            period = rng.choice((1, 2, 3, 4, 6, 17, 18, 299, 300, 301, 600))
            refusal = refused(mended, plan, period, some_beats(rng, plan, period))
            plan_is_refused(self, slow_size(plan, period, ()) > 300, refusal)

    def test_asked_again_behind_other_plans(self):
        asked = [(tracks(3, 2), 8, (0, 0, 0)), (line(3, 3), 4, (3, 0, 1)), (tracks(3, 3), 8, (0, 3, 6)), (tracks(3, 2), 7, (0, 1, 2))]
        first = [self.told(*one) for one in asked]
        for _ in range(3):
            refused(mended, line(8, 8), 600, (0,) * 8)
            self.assertEqual([self.told(*one) for one in asked[::-1]], first[::-1])


if __name__ == "__main__":
    unittest.main()
