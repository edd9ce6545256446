"""[17], [5] All times but for moving the parts, and the lengths that a span has by some times."""

import unittest

from beatplans.alltimes import all_times, lengths_there
from beatplans.finding import times_or_none
from beatplans.moving import beats_turned, plan_turned
from tests.helpers import (
    NAMES, all_beats, forbidding, free_small, line, plan_is_refused, refused, seeded, slow_all_times, slow_keeps, slow_length,
    slow_parts, slow_size, some_beats, some_plan, tracks,
)


def moved_to_firsts(plan, period, beats):
    """The beats with each part moved so that its first work stands at 0."""
    moved = list(beats)
    for part in slow_parts(plan):
        for work in part:
            moved[work] = (beats[work] - beats[part[0]]) % period
    return tuple(moved)


class AllTimes(unittest.TestCase):

    def told(self, plan, period):
        """The list that is told, of the right kinds."""
        shown = repr(plan)
        rows = all_times(plan, period)
        self.assertEqual(repr(plan), shown)
        self.assertIs(type(rows), list)
        for row in rows:
            self.assertIs(type(row), tuple)
            self.assertEqual({type(beat) for beat in row}, {int})
        return rows

    def test_told_by_hand(self):
        for plan, period, rows in (
            ((("a",), ()), 600, [(0,)]), ((NAMES, ()), 600, [(0,) * 8]), ((("a",), ()), 1, [(0,)]),
            ((NAMES[:2], (("span", 0, 1, 2, 4),)), 10, [(0, 2), (0, 3), (0, 4)]),
            ((NAMES[:2], (("span", 1, 0, 2, 4),)), 10, [(0, 6), (0, 7), (0, 8)]),
            ((NAMES[:2], (("span", 0, 1, 9, 11),)), 10, [(0, 0), (0, 1), (0, 9)]),
            ((NAMES[:2], (("span", 0, 1, 2, 4), ("span", 0, 1, 2, 4))), 10, [(0, 2), (0, 3), (0, 4)]),
            ((NAMES[:2], (("span", 0, 1, 2, 4), ("span", 0, 1, 5, 6))), 10, []),
            ((NAMES[:2], (("apart", 0, 1, 2, 6),)), 10, [(0, 2), (0, 3), (0, 4)]),
            ((NAMES[:2], (("apart", 0, 1, 6, 5),)), 10, []),
            ((NAMES[:2], (("span", 0, 1, 0, 9999),)), 1, [(0, 0)]),
            ((NAMES[:1], (("span", 0, 0, 0, 0),)), 10, [(0,)]), ((NAMES[:1], (("span", 0, 0, 1, 9),)), 10, []),
            ((NAMES[:3], (("span", 0, 2, 1, 2),)), 10, [(0, 0, 1), (0, 0, 2)]),
            ((NAMES[:3], (("span", 2, 1, 1, 2),)), 10, [(0, 0, 8), (0, 0, 9)]),
            ((NAMES[:4], (("span", 0, 2, 1, 2), ("span", 3, 1, 0, 1))), 10,
             [(0, 0, 1, 0), (0, 0, 1, 9), (0, 0, 2, 0), (0, 0, 2, 9)]),
            ((NAMES[:4], (("span", 0, 2, 1, 2), ("span", 3, 1, 0, 1), ("span", 1, 1, 3, 5))), 10, []),
            ((NAMES[:3], (("span", 0, 1, 1, 1), ("span", 1, 2, 1, 1), ("span", 2, 0, 1, 1))), 3, [(0, 1, 2)]),
            ((NAMES[:3], (("span", 0, 1, 1, 1), ("span", 1, 2, 1, 1), ("span", 2, 0, 1, 1))), 4, []),
        ):
            self.assertEqual(self.told(plan, period), rows)

    def test_great_rounds_of_two_works(self):
        for period in (100, 299, 300):
            self.assertEqual(self.told(line(2, 2), period), [(0, beat) for beat in range(period)])
            self.assertEqual(self.told(tracks(2, period // 2), period), [
                (0, beat) for beat in range(period // 2, period - period // 2 + 1)
            ])
            self.assertEqual(self.told(forbidding(period, [(0, 4), (6, period - 1)], 3), period), [(0, 5)])
            self.assertEqual(self.told(forbidding(period, [(0, 5), (6, period - 1)], 3), period), [])

    def test_small_plans_gone_through(self):
        rng = seeded("all times")
        some = 0
        for _ in range(500):
            period = rng.randint(1, 5)
            plan = some_plan(rng, rng.randint(1, 4), rng.randint(0, 6), rng.choice((period, 2 * period)))
            if slow_size(plan, period, ()) > 300:
                continue
            rows = self.told(plan, period)
            firsts = [part[0] for part in slow_parts(plan)]
            every = [beats for beats in all_beats(plan, period) if slow_keeps(plan, period, beats)]
            self.assertEqual(rows, sorted([beats for beats in every if not any(beats[work] for work in firsts)]))
            some += bool(rows)
            for beats in all_beats(plan, period):
                self.assertEqual(beats in every, moved_to_firsts(plan, period, beats) in rows)
        self.assertGreater(some, 100)

    def test_any_plans(self):
        rng = seeded("any plans")
        some = several = 0
        for _ in range(400):
            plan, period = free_small(rng)
            rows = self.told(plan, period)
            self.assertEqual(rows, slow_all_times(plan, period))
            self.assertEqual(rows, sorted(rows))
            self.assertEqual(bool(rows), times_or_none(plan, period)[0] == "times")
            some += bool(rows)
            several += bool(rows) and 1 < len(slow_parts(plan)) < len(plan[0])
            for _ in range(5):
                beats = some_beats(rng, plan, period)
                self.assertEqual(slow_keeps(plan, period, beats), moved_to_firsts(plan, period, beats) in rows)
            for times in rows[:5]:
                moved = list(times)
                for part in slow_parts(plan):
                    by = rng.randrange(period)
                    for work in part:
                        moved[work] = (times[work] + by) % period
                self.assertTrue(slow_keeps(plan, period, moved))
                self.assertIn(moved_to_firsts(plan, period, moved), rows)
        self.assertGreater(some, 100)
        self.assertGreater(several, 20)

    def test_turned_about(self):
        rng = seeded("all turned")
        for _ in range(100):
            plan, period = free_small(rng)
            turned = sorted([beats_turned(period, times) for times in all_times(plan, period)])
            self.assertEqual(all_times(plan_turned(plan), period), turned)

    def test_void_windows(self):
        for one, other in ((0, 0), (0, 1), (1, 0), (1, 2)):
            void = ("apart", one, other, 60, 41)
            wide = ("span", 0, 1, 0, 9999)
            for spans in ((void,), (wide, void), (void, wide), (void, void)):
                self.assertEqual(self.told((NAMES[:3], spans), 17), [])
                for s in range(len(spans)):
                    self.assertEqual(lengths_there((NAMES[:3], spans), 17, s), [])

    def test_what_is_told_is_the_askers_own(self):
        for plan, period in ((tracks(3, 2), 8), (line(2, 2), 5), (tracks(3, 3), 8), ((NAMES, ()), 600)):
            first = list(all_times(plan, period))
            changed = all_times(plan, period)
            changed.append(None)
            changed[0] = changed[-1]
            self.assertEqual(all_times(plan, period), first)
            changed.clear()
            self.assertEqual(all_times(plan, period), first)
            if plan[1]:
                lengths = list(lengths_there(plan, period, 0))
                lengths_there(plan, period, 0).append(7)
                lengths_there(plan, period, 0).clear()
                self.assertEqual(lengths_there(plan, period, 0), lengths)

    def test_asked_again_behind_other_plans(self):
        plans = [(tracks(3, 2), 8), (line(3, 3), 4), (tracks(3, 3), 8), (tracks(3, 2), 7)]
        first = [self.told(plan, period) for plan, period in plans]
        for _ in range(3):
            refused(all_times, line(8, 8), 600)
            for (plan, period), rows in reversed(list(zip(plans, first))):
                self.assertEqual(self.told(plan, period), rows)


class LengthsThere(unittest.TestCase):

    def told(self, plan, period, s):
        """The list that is told, of the right kinds."""
        shown = repr(plan)
        lengths = lengths_there(plan, period, s)
        self.assertEqual(repr(plan), shown)
        self.assertIs(type(lengths), list)
        self.assertLessEqual({type(length) for length in lengths}, {int})
        return lengths

    def test_told_by_hand(self):
        for plan, period, s, lengths in (
            ((NAMES[:2], (("span", 0, 1, 2, 4),)), 10, 0, [2, 3, 4]),
            ((NAMES[:2], (("span", 1, 0, 2, 4),)), 10, 0, [2, 3, 4]),
            ((NAMES[:2], (("span", 0, 1, 28, 9999),)), 5, 0, [28, 29, 30, 31, 32]),
            ((NAMES[:2], (("span", 0, 1, 9999, 9999),)), 300, 0, [9999]),
            ((NAMES[:2], (("span", 0, 1, 2, 4), ("span", 0, 1, 13, 20))), 10, 0, [3, 4]),
            ((NAMES[:2], (("span", 0, 1, 2, 4), ("span", 0, 1, 13, 20))), 10, 1, [13, 14]),
            ((NAMES[:2], (("span", 0, 1, 2, 4), ("span", 0, 1, 5, 6))), 10, 0, []),
            ((NAMES[:2], (("span", 0, 0, 0, 5), ("span", 1, 1, 8, 12))), 10, 0, [0]),
            ((NAMES[:2], (("span", 0, 0, 0, 5), ("span", 1, 1, 8, 12))), 10, 1, [10]),
            ((NAMES[:2], (("span", 0, 0, 1, 5), ("span", 0, 1, 2, 3))), 10, 1, []),
            ((NAMES[:3], (("span", 0, 1, 0, 9), ("span", 0, 2, 1, 2), ("span", 2, 1, 1, 1))), 10, 0, [2, 3]),
            ((NAMES[:2], (("span", 0, 1, 2, 4),) * 3), 10, 2, [2, 3, 4]),
            ((NAMES[:2], (("span", 0, 1, 0, 3), ("span", 1, 0, 0, 9), ("apart", 0, 1, 2, 9))), 11, 1, [9]),
        ):
            self.assertEqual(self.told(plan, period, s), lengths)

    def test_lengths_of_each_span(self):
        rng = seeded("lengths there")
        for _ in range(300):
            plan, period = free_small(rng)
            rows = slow_all_times(plan, period)
            for s, span in enumerate(plan[1]):
                lengths = self.told(plan, period, s)
                self.assertEqual(lengths, sorted({slow_length(span, period, times) for times in rows}))

    def test_by_all_times_wherever_the_parts_stand(self):
        rng = seeded("lengths by all")
        for _ in range(200):
            period = rng.randint(1, 4)
            plan = some_plan(rng, rng.randint(1, 4), rng.randint(1, 5), 2 * period)
            every = [beats for beats in all_beats(plan, period) if slow_keeps(plan, period, beats)]
            for s, span in enumerate(plan[1]):
                self.assertEqual(
                    self.told(plan, period, s), sorted({slow_length(span, period, times) for times in every})
                )


class Refused(unittest.TestCase):

    def is_refused(self, many, plan, period):
        refusals = [refused(all_times, plan, period)]
        refusals += [refused(lengths_there, plan, period, s) for s in range(len(plan[1]))]
        for refusal in refusals:
            plan_is_refused(self, many, refusal)

    def test_at_the_edge_and_far_above(self):
        for plan, period, many in (
            (line(2, 2), 300, False), (line(2, 2), 301, True), (line(2, 2), 600, True), (line(3, 3), 17, False),
            (line(3, 3), 18, True), (line(8, 8), 2, False), (line(8, 8), 3, True), (line(8, 8), 600, True),
            (line(8, 1), 600, False), (line(8, 2), 300, False), (line(8, 2), 301, True), (line(8, 4), 6, False),
            (line(8, 4), 7, True), (line(8, 8), 1, False),
            ((NAMES[:4], (("span", 0, 1, 0, 1), ("apart", 3, 2, 0, 1))), 17, False),
            ((NAMES[:4], (("span", 0, 1, 0, 1), ("apart", 3, 2, 0, 1))), 18, True),
            ((NAMES[:2], (("apart", 0, 1, 9999, 9999),)), 300, False),
            ((NAMES[:2], (("apart", 0, 1, 9999, 9999),)), 301, True),
            ((NAMES[:2], (("span", 0, 1, 1, 1), ("span", 0, 1, 2, 2))), 301, True),
            ((NAMES[:2], (("span", 0, 1, 1, 1), ("span", 0, 1, 2, 2))), 300, False),
        ):
            self.is_refused(many, plan, period)

    def test_just_where_the_size_is(self):
        rng = seeded("too many times")
        for _ in range(300):
            plan = some_plan(rng, rng.randint(1, 8), rng.choice((0, 1, 2, 4, 6)), 9999)
            period = rng.choice((1, 2, 3, 4, 6, 17, 18, 299, 300, 301, 600))
            self.is_refused(slow_size(plan, period, ()) > 300, plan, period)


if __name__ == "__main__":
    unittest.main()
