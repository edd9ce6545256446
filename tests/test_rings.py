"""[13] Rings: what is one, their sums, whether they bar, how many rounds they have."""

import unittest

from beatplans.moving import shifted
from beatplans.plans import lengths_of, windows_of
from beatplans.rings import is_ring, ring_bars, rounds_in, sums_of
from tests.helpers import (
    FORTY, NAMES, paths_of, plain_things, put, seeded, slow_bars, slow_is_ring, slow_sums, some_beats, some_plan,
    with_lists, with_truths,
)

# From 0 to 1, to 2, back to 0; another one from 0 to 2; one of 1 with itself; 3 stands alone.
PLAN = (NAMES[:4], (
    ("span", 0, 1, 2, 5), ("apart", 1, 2, 4, 3), ("span", 2, 0, 0, 9), ("span", 0, 2, 1, 1), ("span", 1, 1, 0, 3),
))
ALL = (0, 1, 2, 3)


def some_walk(rng, plan, stays, most):
    """Any ring, grown at random until it closes; None where it doesn't."""
    start = work = rng.randrange(len(plan[0]))
    ring = ()
    while len(ring) < most:
        steps = []
        for s, span in enumerate(plan[1]):
            steps += [((s, 1), span[2])] if span[1] == work else []
            steps += [((s, -1), span[1])] if span[2] == work else []
        if work in stays:
            steps += [(("home", work, other), other) for other in stays]
        if not steps:
            return None
        entry, work = rng.choice(steps)
        ring += (entry,)
        if work == start and rng.random() < 0.7:
            return ring
    return None


class IsRing(unittest.TestCase):

    def yes(self, stays, ring, plan=PLAN):
        self.assertIs(is_ring(plan, stays, ring), True)

    def no(self, stays, ring, plan=PLAN):
        self.assertIs(is_ring(plan, stays, ring), False)

    def test_closed_ways(self):
        ring = ((0, 1), (1, 1), (2, 1))
        for stays in ((), (0,), (1, 3), ALL):
            self.yes(stays, ring)
            self.yes(stays, ring[1:] + ring[:1])
            self.yes(stays, ring[2:] + ring[:2])
            self.yes(stays, ((2, -1), (1, -1), (0, -1)))
            self.yes(stays, ((1, -1), (0, -1), (2, -1)))
            self.yes(stays, ((0, 1), (1, 1), (3, -1)))
            self.yes(stays, ((3, 1), (2, 1)))
            self.yes(stays, ((4, 1),))
            self.yes(stays, ((4, -1),))
            self.yes(stays, ((0, 1), (4, 1), (4, -1), (1, 1), (2, 1)))
            self.yes(stays, ((0, 1), (0, -1)))
            self.yes(stays, ((0, -1), (0, 1)))
            self.yes(stays, ring * 20)

    def test_ways_that_are_not_closed(self):
        for stays in ((), ALL):
            for ring in (
                ((0, 1),), ((0, -1),), ((0, 1), (1, 1)), ((1, 1), (2, 1)), ((0, 1), (1, 1), (2, -1)),
                ((0, 1), (2, 1), (1, 1)), ((2, 1), (1, 1), (0, 1)), ((0, 1), (0, 1)), ((0, -1), (1, -1), (2, -1)),
                ((0, 1), (1, 1), (3, 1)), ((3, 1), (2, -1)), ((0, 1), (1, 1), (2, 1), (4, 1)), ((4, 1), (0, 1)),
                ((0, 1), (4, 1)), ((0, 1), (1, 1), (1, -1)), ((1, 1), (2, 1), (1, 1), (2, 1)),
            ):
                self.no(stays, ring)

    def test_homes_of_works_that_stay(self):
        self.yes((0, 1), ((0, 1), ("home", 1, 0)))
        self.yes((0, 1), (("home", 0, 1), (0, -1)))
        self.yes((0, 1), (("home", 1, 0), (0, 1)))
        self.yes((0, 1), (("home", 0, 1), ("home", 1, 0)))
        self.yes((3,), (("home", 3, 3),))
        self.yes((0,), (("home", 0, 0), (0, 1), (0, -1)))
        self.yes(ALL, (("home", 0, 3), ("home", 3, 2), (2, 1)))

    def test_homes_that_cannot_stand(self):
        for stays, ring in (
            ((), (("home", 0, 0),)), ((1,), (("home", 0, 0),)), ((0,), ((0, 1), ("home", 1, 0))),
            ((1,), ((0, 1), ("home", 1, 0))), ((0, 1), ((0, 1), ("home", 0, 1))), ((0, 1), (("home", 1, 0),)),
            ((0, 1), (("home", 0, 1),)), ((0, 1), (("home", 0, 1), ("home", 0, 1))), ((0, 1), (("homes", 0, 0),)),
            ((0, 1), (("", 0, 0),)), ((0, 1), ((None, 0, 0),)), ((0, 1), (("home", 0),)),
            ((0, 1), (("home", 0, 0, 0),)), ((0, 1), (("home", False, 0),)), ((0, 1), (("home", 0, False),)),
            ((0, 1), (("home", True, True),)), ((0, 1), (("home", 4, 4),)), (ALL, (("home", 4, 4),)),
            (ALL, (("home", -1, -1),)), (ALL, (("home", None, None),)), (ALL, (("home", "a", "a"),)),
            (ALL, (("home", [0], [0]),)), (ALL, (("home", (), ()),)), (ALL, ((0, 0, 0),)), (ALL, (("span", 0, 0),)),
        ):
            self.no(stays, ring)

    def test_how_many_entries(self):
        for stays in ((), ALL):
            self.no(stays, ())
            for many in (1, 2, 59, 60):
                self.yes(stays, ((4, 1),) * many)
            for many in (61, 62, 200):
                self.no(stays, ((4, 1),) * many)
        self.yes((0,), (("home", 0, 0),) * 60)
        self.no((0,), (("home", 0, 0),) * 61)

    def test_entries_that_are_none(self):
        for entry in (
            (4, 0), (4, True), (4, False), (4, 2), (4, -2), (4, None), (4, "1"), (5, 1), (-1, 1), (FORTY, 1),
            (-FORTY, -1), (True, 1), (False, 1), (None, 1), ("4", 1), ([4], 1), ((4,), 1), (4,), (), (4, 1, 1), [4, 1],
            None, 4, "home", {4: 1}, (4, [1]), (4, (1,)), ("home", 1), (4, FORTY),
        ):
            for stays in ((), ALL):
                self.no(stays, (entry,))
                self.no(stays, ((4, 1), entry))
                self.no(stays, (entry, (4, 1)))

    def test_truths_in_the_place_of_equal_numbers(self):
        plan = (("a", "b"), (("span", 0, 0, 0, 1), ("span", 0, 0, 0, 1)))
        self.yes((), ((0, 1), (1, 1)), plan)
        for ring in with_truths(((0, 1), (1, 1), ("home", 0, 0))):
            self.no((0, 1), ring, plan)
        self.yes((0, 1), ((0, 1), (1, 1), ("home", 0, 0)), plan)

    def test_lists_in_the_place_of_tuples(self):
        for ring in with_lists(((0, 1), (1, 1), ("home", 2, 0))):
            self.no(ALL, ring)
        self.yes(ALL, ((0, 1), (1, 1), ("home", 2, 0)))

    def test_any_plain_thing(self):
        right = ((0, 1), (1, 1), ("home", 2, 0))
        for thing in plain_things():
            shown = repr(thing)
            for stays in ((), (0,), ALL):
                self.no(stays, thing)
                self.assertEqual(repr(thing), shown)
            for path in paths_of(right):
                changed = put(right, path, thing)
                self.assertIs(is_ring(PLAN, ALL, changed), slow_is_ring(PLAN, ALL, changed))

    def test_plans_without_spans(self):
        plan = (("a",), ())
        self.no((), ((0, 1),), plan)
        self.no((), ((-1, 1),), plan)
        self.yes((0,), (("home", 0, 0),), plan)

    def test_against_a_slow_reckoning(self):
        rng = seeded("is ring")
        seen = {True: 0, False: 0}
        for _ in range(3000):
            plan = some_plan(rng, rng.randint(1, 4), rng.randint(0, 6), 9)
            stays = tuple([work for work in range(len(plan[0])) if rng.random() < 0.4])
            ring = some_walk(rng, plan, stays, 60)
            if ring is None:
                continue
            self.assertIs(is_ring(plan, stays, ring), True)
            turned = tuple([
                (entry[0], -entry[1]) if len(entry) == 2 else ("home", entry[2], entry[1]) for entry in ring[::-1]
            ])
            self.assertIs(is_ring(plan, stays, turned), True)
            fewer = stays[1:]
            cut = rng.randrange(len(ring))
            at, new = rng.randrange(len(ring)), rng.choice(((0, 1), (0, -1), (1, 1), ("home", 0, 0), ("home", 1, 0)))
            for thing in (ring[:cut], ring[cut:] + ring[:cut], ring[:at] + (new,) + ring[at + 1:], ring[::-1]):
                for some in (stays, fewer):
                    told = is_ring(plan, some, thing)
                    self.assertIs(told, slow_is_ring(plan, some, thing))
                    seen[told] += 1
        self.assertGreater(min(seen.values()), 500)


class Sums(unittest.TestCase):

    def test_told_by_hand(self):
        windows = ((2, 5), (4, 7), (0, 9), (1, 1), (0, 3))
        beats = (3, 8, 1, 0)
        for ring, sums in (
            (((0, 1), (1, 1), (2, 1)), (6, 21)), (((2, -1), (1, -1), (0, -1)), (-21, -6)), (((4, 1),), (0, 3)),
            (((4, -1),), (-3, 0)), (((0, 1), (0, -1)), (-3, 3)), (((0, 1), (1, 1), (3, -1)), (5, 11)),
            (((0, 1), ("home", 1, 0)), (-3, 0)), ((("home", 0, 1), (0, -1)), (0, 3)), ((("home", 3, 3),), (0, 0)),
            ((("home", 0, 2), ("home", 2, 0)), (0, 0)), (((2, 1), ("home", 0, 2)), (-2, 7)),
        ):
            self.assertEqual(sums_of(PLAN, 10, beats, windows, ring), sums)
            self.assertIs(type(sums_of(PLAN, 10, beats, windows, ring)), tuple)

    def test_both_ends_are_taken_with(self):
        ring = ((4, 1),)
        for least, most, bars in (
            (0, 0, False), (1, 9, True), (1, 10, False), (0, 9, False), (10, 10, False), (11, 19, True), (11, 20, False),
            (10, 19, False), (-9, -1, True), (-10, -1, False), (-9, 0, False), (-10, -10, False), (-19, -11, True),
            (-20, -11, False), (-19, -10, False), (5, 5, True), (-5, 5, False), (1, 100, False), (9, 1, True),
            (10, 9, True), (20, 0, True), (1, 0, True), (0, -1, True), (11, 10, True), (5, -50, True),
        ):
            windows = ((0, 0),) * 4 + ((least, most),)
            told = ring_bars(PLAN, 10, (0, 0, 0, 0), windows, ring)
            self.assertIs(told, bars)
            self.assertIs(ring_bars(PLAN, 10, (0, 0, 0, 0), windows, ((4, -1),)), bars)

    def test_a_round_of_one_bars_only_where_void(self):
        for least, most in ((0, 0), (-7, -7), (3, 9), (FORTY, FORTY)):
            self.assertIs(ring_bars(PLAN, 1, (0, 0, 0, 0), ((least, most),) * 5, ((4, 1),)), False)
        self.assertIs(ring_bars(PLAN, 1, (0, 0, 0, 0), ((1, 0),) * 5, ((4, 1),)), True)

    def test_against_slow_reckonings(self):
        rng = seeded("sums")
        seen = {True: 0, False: 0}
        for _ in range(3000):
            plan = some_plan(rng, rng.randint(1, 5), rng.randint(1, 7), 9)
            period = rng.choice((1, 2, 3, 10, 60, 600))
            beats = some_beats(rng, plan, period)
            stays = tuple([work for work in range(len(plan[0])) if rng.random() < 0.4])
            ring = some_walk(rng, plan, stays, 60)
            if ring is None:
                continue
            great = rng.choice((period, 3 * period, 10 ** 39))
            windows = []
            for _ in plan[1]:
                least = rng.randint(-great, great)
                windows.append((least, least + rng.choice((0, rng.randint(0, period), rng.randint(-period, great)))))
            windows = tuple(windows)
            sums = slow_sums(beats, windows, ring)
            for _ in range(2):
                self.assertEqual(sums_of(plan, period, beats, windows, ring), sums)
                told = ring_bars(plan, period, beats, windows, ring)
                self.assertIs(told, slow_bars(period, beats, windows, ring))
            seen[told] += 1
            if sums[1] - sums[0] < 2000:
                self.assertEqual(told, not any(number % period == 0 for number in range(sums[0], sums[1] + 1)))
            named = {work for entry in ring if len(entry) == 3 for work in entry[1:]}
            others = tuple([beat if work in named else rng.randrange(period) for work, beat in enumerate(beats)])
            self.assertEqual(sums_of(plan, period, others, windows, ring), sums)
            self.assertIs(ring_bars(plan, period, others, windows, ring), told)
        self.assertGreater(min(seen.values()), 300)

    def test_great_windows(self):
        windows = ((FORTY, FORTY + 3), (-FORTY, 7 - FORTY), (1 - FORTY, FORTY), (0, 0), (FORTY - 1, FORTY - 1))
        self.assertEqual(sums_of(PLAN, 10, (0, 0, 0, 0), windows, ((0, 1), (1, 1), (2, 1))), (1 - FORTY, FORTY + 10))
        self.assertIs(ring_bars(PLAN, 10, (0, 0, 0, 0), windows, ((4, 1),)), True)
        self.assertIs(ring_bars(PLAN, 3, (0, 0, 0, 0), windows, ((0, 1), (0, -1))), False)

    def test_rings_of_sixty(self):
        windows = ((0, 0),) * 4 + ((1, 2),)
        self.assertEqual(sums_of(PLAN, 600, (0, 0, 0, 0), windows, ((4, 1),) * 60), (60, 120))
        self.assertIs(ring_bars(PLAN, 121, (0, 0, 0, 0), windows, ((4, 1),) * 60), True)
        self.assertIs(ring_bars(PLAN, 120, (0, 0, 0, 0), windows, ((4, 1),) * 60), False)


class Rounds(unittest.TestCase):

    def test_told_by_hand(self):
        beats = (3, 8, 1, 0)
        self.assertEqual(lengths_of(PLAN, 10, beats), (5, 13, 2, 8, 0))
        self.assertEqual(rounds_in(PLAN, 10, beats, ((0, 1), (1, 1), (2, 1))), 2)
        self.assertEqual(rounds_in(PLAN, 10, beats, ((2, -1), (1, -1), (0, -1))), -2)
        self.assertEqual(rounds_in(PLAN, 10, beats, ((0, 1), (1, 1), (3, -1))), 1)
        self.assertEqual(rounds_in(PLAN, 10, beats, ((3, 1), (1, -1), (0, -1))), -1)
        self.assertEqual(rounds_in(PLAN, 10, beats, ((0, 1), (0, -1))), 0)
        self.assertEqual(rounds_in(PLAN, 10, beats, ((4, 1),)), 0)

    def test_whole_rounds_and_the_same_for_shifted_beats(self):
        rng = seeded("rounds")
        seen = set()
        for _ in range(2000):
            period = rng.choice((1, 2, 7, 60, 600))
            plan = some_plan(rng, rng.randint(1, 5), rng.randint(1, 7), 3 * period)
            beats = some_beats(rng, plan, period)
            ring = some_walk(rng, plan, (), 60)
            if ring is None:
                continue
            told = rounds_in(plan, period, beats, ring)
            lengths = lengths_of(plan, period, beats)
            self.assertIs(type(told), int)
            self.assertEqual(told * period, sum(way * lengths[s] for s, way in ring))
            by = rng.randint(-9999, 9999)
            self.assertEqual(rounds_in(plan, period, shifted(period, beats, by), ring), told)
            turned = tuple([(s, -way) for s, way in ring[::-1]])
            self.assertEqual(rounds_in(plan, period, beats, turned), -told)
            self.assertIs(ring_bars(plan, period, beats, tuple([(one, one) for one in lengths]), ring), False)
            seen.add((told > 0) - (told < 0))
        self.assertEqual(seen, {-1, 0, 1})

    def test_windows_of_kept_spans_do_not_bar(self):
        plan = (NAMES[:3], (("span", 0, 1, 2, 5), ("span", 1, 2, 4, 7), ("span", 2, 0, 0, 9)))
        ring = ((0, 1), (1, 1), (2, 1))
        self.assertIs(ring_bars(plan, 10, (0, 0, 0), windows_of(plan, 10), ring), False)
        self.assertIs(ring_bars(plan, 22, (0, 0, 0), windows_of(plan, 22), ring), True)


if __name__ == "__main__":
    unittest.main()
