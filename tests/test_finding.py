"""[16], [5] The size of a plan; times found, or cases that there are none."""

import unittest

from beatplans.finding import size_of, times_or_none, times_or_none_with
from beatplans.moving import beats_many, beats_turned, plan_many, plan_turned, shifted
from beatplans.nonechecker import lets_none, lets_none_with
from beatplans.plans import are_beats, unkept
from tests.helpers import (
    NAMES, all_beats, depth_of, forbidding, line, nodes_of, plan_is_refused, random_small, refused, seeded, slow_fault,
    slow_keeps, slow_size, slow_times, some_beats, some_plan, tracks,
)


class Size(unittest.TestCase):

    def test_told_by_hand(self):
        for plan, period, stays, size in (
            (line(1, 1), 600, (), 1), (line(1, 1), 600, (0,), 1), (line(8, 1), 600, (), 1),
            (line(8, 1), 600, (0, 3, 7), 1), (line(2, 2), 1, (), 1), (line(2, 2), 300, (), 300),
            (line(2, 2), 301, (), 301), (line(2, 2), 600, (), 600), (line(2, 2), 600, (0,), 600),
            (line(2, 2), 600, (1,), 600), (line(2, 2), 600, (0, 1), 1), (line(3, 3), 17, (), 289),
            (line(3, 3), 18, (), 324), (line(3, 3), 17, (1,), 289), (line(3, 3), 300, (0, 2), 300),
            (line(3, 2), 300, (), 300), (line(3, 2), 300, (2,), 300), (line(3, 2), 300, (0, 2), 300),
            (line(8, 8), 2, (), 128), (line(8, 8), 600, (), 600 ** 7), (line(8, 8), 600, (5,), 600 ** 7),
            (line(8, 8), 10, (0, 1, 2), 10 ** 5), (line(8, 8), 600, tuple(range(8)), 1), (line(8, 4), 5, (), 125),
            (line(8, 4), 5, (0, 7), 125), (line(8, 4), 5, (0, 1, 7), 25),
            ((NAMES[:4], (("span", 0, 1, 0, 1), ("apart", 3, 2, 0, 1))), 7, (), 49),
            ((NAMES[:4], (("span", 0, 1, 0, 1), ("apart", 3, 2, 0, 1))), 7, (2,), 49),
            ((NAMES[:4], (("span", 0, 1, 0, 1), ("apart", 3, 2, 0, 1))), 7, (0, 1), 7),
            ((NAMES[:2], (("span", 1, 1, 0, 1),)), 7, (), 1), ((NAMES[:2], (("span", 0, 1, 0, 1),) * 24), 7, (), 7),
        ):
            told = size_of(plan, period, stays)
            self.assertEqual(told, size)
            self.assertIs(type(told), int)

    def test_against_a_slow_reckoning(self):
        rng = seeded("size")
        for _ in range(2000):
            plan = some_plan(rng, rng.randint(1, 8), rng.choice((0, 1, 2, 3, 5, 8, 24)), 9999)
            period = rng.choice((1, 2, 3, 17, 60, 300, 600))
            stays = tuple([work for work in range(len(plan[0])) if rng.random() < 0.3])
            for some in ((), stays):
                self.assertEqual(size_of(plan, period, some), slow_size(plan, period, some))


class Found(unittest.TestCase):

    def right(self, plan, period, beats=None, stays=None):
        """What is told is right; the word that it is told with."""
        shown = repr((plan, beats, stays))
        if stays is None:
            told = times_or_none(plan, period)
            beats, stays = (0,) * len(plan[0]), ()
        else:
            told = times_or_none_with(plan, period, beats, stays)
        self.assertIs(type(told), tuple)
        word, thing = told
        self.assertIn(word, ("times", "none"))
        if word == "times":
            self.assertIs(are_beats(plan, period, thing), True)
            self.assertIsNone(unkept(plan, period, thing))
            self.assertTrue(slow_keeps(plan, period, thing))
            for work in stays:
                self.assertEqual(thing[work], beats[work])
        else:
            self.assertIsNone(slow_fault(plan, period, beats, stays, thing))
            self.assertIs(lets_none_with(plan, period, beats, stays, thing), True)
            if not stays:
                self.assertIs(lets_none(plan, period, thing), True)
            self.assertLessEqual(nodes_of(thing), 20000)
            self.assertLessEqual(depth_of(thing), 100)
        return word

    def answers(self, word, plan, period):
        """This word is told, without stays and with none."""
        self.assertEqual(self.right(plan, period), word)
        self.assertEqual(self.right(plan, period, (0,) * len(plan[0]), ()), word)

    def test_told_by_hand(self):
        self.answers("times", (("a",), ()), 600)
        self.answers("times", (NAMES, ()), 600)
        self.answers("times", (("a",), (("span", 0, 0, 0, 0),)), 600)
        self.answers("none", (("a",), (("span", 0, 0, 1, 599),)), 600)
        self.answers("times", (("a",), (("span", 0, 0, 1, 600),)), 600)
        self.answers("times", (("a", "b"), (("span", 0, 1, 9999, 9999), ("span", 0, 1, 99, 99))), 300)
        self.answers("none", (("a", "b"), (("span", 0, 1, 9999, 9999), ("span", 0, 1, 98, 98))), 300)
        self.answers("times", (("a", "b"), (("span", 0, 1, 7, 7), ("span", 1, 0, 93, 93))), 100)
        self.answers("none", (("a", "b"), (("span", 0, 1, 7, 7), ("span", 1, 0, 93, 93))), 101)

    def test_void_windows(self):
        for one, other in ((0, 0), (0, 1), (1, 0), (1, 2)):
            void = ("apart", one, other, 60, 41)
            self.answers("none", (NAMES[:3], (void,)), 17)
            self.answers("none", (NAMES[:3], (("span", 0, 1, 0, 5), void)), 17)
            self.answers("none", (NAMES[:3], (void, ("span", 0, 1, 0, 5))), 17)
            self.assertEqual(self.right((NAMES[:3], (void,)), 100, (1, 2, 3), (0, 1, 2)), "none")
            self.assertEqual(self.right((NAMES[:3], (void,)), 100, (1, 2, 3), (1, 2)), "none")
        self.answers("none", (NAMES[:2], (("apart", 0, 1, 0, 9999),)), 300)
        self.answers("none", (NAMES[:2], (("apart", 0, 1, 9999, 0),)), 300)
        self.answers("times", (NAMES[:2], (("apart", 0, 1, 60, 40),)), 100)
        self.answers("none", (NAMES[:2], (("apart", 0, 1, 60, 41),)), 100)

    def test_single_tracks(self):
        # So many works fit on one track just where the round is long enough for all.
        for works, period in ((2, 300), (3, 17), (4, 6), (5, 4), (6, 3), (8, 2), (3, 16), (4, 5), (5, 3), (6, 2), (2, 7)):
            for hold in range(1, 7):
                self.answers("times" if works * hold <= period else "none", tracks(works, hold), period)

    def test_windows_that_fit_by_pairs_alone(self):
        for third in (2, 20, 33, 99, 100):
            period = 3 * third
            spans = tuple([("span", 0, 1, at * third, (at + 2) * third - 1) for at in range(3)])
            self.answers("none", (NAMES[:2], spans), period)
            self.answers("times", (NAMES[:2], spans[:2]), period)
            self.answers("times", (NAMES[:2], spans[1:]), period)
            for wider in range(3):
                word, one, other, low, high = spans[wider]
                longer = spans[:wider] + ((word, one, other, low, high + 1),) + spans[wider + 1:]
                self.answers("times", (NAMES[:2], longer), period)

    def test_one_length_left_or_none(self):
        rng = seeded("holes")
        for _ in range(150):
            period = rng.choice((24, 100, 101, 200, 299, 300))
            wide = -(-period // rng.randint(2, 20))
            holes = [(first, min(first + wide, period) - 1) for first in range(0, period, wide)]
            if len(holes) < 2:
                continue
            for rounds in (0, 1, 20):
                self.answers("none", forbidding(period, holes, rounds), period)
            at = rng.randrange(len(holes))
            first, last = holes[at]
            if first == last:
                holes = holes[:at] + holes[at + 1:]
                left = first
            else:
                left = rng.choice((first, last))
                holes[at] = (first + 1, last) if left == first else (first, last - 1)
            plan = forbidding(period, holes, rng.choice((0, 1, 20)))
            self.answers("times", plan, period)
            one, other = times_or_none(plan, period)[1]
            self.assertEqual((other - one) % period, left)
            for beat in (0, 5, period - 1):
                self.assertEqual(self.right(plan, period, (beat, 0), (0,)), "times")
                self.assertEqual(self.right(plan, period, (0, beat), (1,)), "times")
                self.assertEqual(self.right(plan, period, (beat, (beat + left) % period), (0, 1)), "times")
                self.assertEqual(self.right(plan, period, (beat, (beat + left + 1) % period), (0, 1)), "none")
            self.answers("none", (plan[0], plan[1][::-1] + (("span", 1, 1, 1, period - 1),)), period)

    def test_small_plans_gone_through(self):
        rng = seeded("small plans")
        seen = {"times": 0, "none": 0}
        for _ in range(1500):
            period = rng.randint(1, 5)
            plan = some_plan(rng, rng.randint(1, 4), rng.randint(0, 8), rng.choice((period, 2 * period)))
            if slow_size(plan, period, ()) > 300:
                continue
            some = any(slow_keeps(plan, period, beats) for beats in all_beats(plan, period))
            word = self.right(plan, period)
            self.assertEqual(word, "times" if some else "none")
            seen[word] += 1
        self.assertGreater(min(seen.values()), 200)

    def test_dense_plans_gone_through(self):
        # Wide windows, many of them: often each two or three fit together, but not all.
        rng = seeded("dense")
        seen = {"times": 0, "none": 0}
        for _ in range(500):
            works, period = rng.choice(((3, 9), (3, 17), (4, 6), (5, 4), (6, 3), (7, 2), (2, 40)))
            spans = []
            for _ in range(rng.randint(works, 24)):
                low = rng.randint(0, 2 * period)
                wide = rng.randint(period // 2, period - 1)
                one, other = rng.sample(range(works), 2)
                spans.append(("span", one, other, low, low + wide))
            plan = (NAMES[:works], tuple(spans))
            word = self.right(plan, period)
            self.assertEqual(word, "none" if slow_times(plan, period, None, ()) is None else "times")
            seen[word] += 1
            beats = some_beats(rng, plan, period)
            stays = tuple([work for work in range(works) if rng.random() < 0.4])
            word = self.right(plan, period, beats, stays)
            self.assertEqual(word, "none" if slow_times(plan, period, beats, stays) is None else "times")
        self.assertGreater(min(seen.values()), 80)

    def test_any_plans_with_stays(self):
        rng = seeded("stays")
        seen = {"times": 0, "none": 0}
        for _ in range(2500):
            plan, period, beats, stays = random_small(rng)
            word = self.right(plan, period, beats, stays)
            self.assertEqual(word, "none" if slow_times(plan, period, beats, stays) is None else "times")
            seen[word] += 1
            others = tuple([beat if work in stays else rng.randrange(period) for work, beat in enumerate(beats)])
            self.assertEqual(self.right(plan, period, others, stays), word)
            if slow_size(plan, period, ()) <= 300:
                free = self.right(plan, period)
                if word == "times":
                    self.assertEqual(free, "times")
        self.assertGreater(min(seen.values()), 500)

    def test_stays_that_times_have_and_have_not(self):
        plan = (NAMES[:3], (("span", 0, 1, 2, 5), ("span", 1, 2, 2, 5)))
        for third in range(17):
            word = "times" if 4 <= third <= 10 else "none"
            self.assertEqual(self.right(plan, 17, (0, 16, third), (0, 2)), word)
            self.assertEqual(self.right(plan, 17, (5, 16, (third + 5) % 17), (0, 2)), word)
        self.assertEqual(self.right(plan, 600, (0, 3, 6), (0, 1, 2)), "times")
        self.assertEqual(self.right(plan, 600, (598, 1, 4), (0, 1, 2)), "times")
        self.assertEqual(self.right(plan, 600, (0, 1, 4), (0, 1, 2)), "none")
        self.assertEqual(self.right(plan, 600, (0, 2, 8), (0, 1, 2)), "none")
        self.assertEqual(self.right(plan, 300, (0, 2, 8), (0, 2)), "times")
        self.assertEqual(self.right(plan, 300, (0, 2, 11), (0, 2)), "none")
        self.assertEqual(self.right(plan, 300, (0, 2, 3), (0, 2)), "none")

    def test_stays_in_one_part_and_in_none_of_another(self):
        spans = (("span", 0, 1, 2, 5), ("span", 2, 3, 1, 1), ("span", 3, 2, 9, 9))
        self.answers("times", (NAMES[:4], spans), 10)
        self.answers("none", (NAMES[:4], spans), 11)
        for stays in ((), (0,), (1,), (0, 1)):
            self.assertEqual(self.right((NAMES[:4], spans), 10, (4, 7, 5, 5), stays), "times")
            self.assertEqual(self.right((NAMES[:4], spans), 11, (4, 7, 5, 5), stays), "none")
            self.assertEqual(self.right((NAMES[:4], spans), 10, (4, 7, 5, 5), stays + (2, 3)), "none")
            self.assertEqual(self.right((NAMES[:4], spans), 10, (4, 7, 5, 6), stays + (2, 3)), "times")

    def test_too_many(self):
        for plan, period, stays, many in (
            (line(2, 2), 300, (), False), (line(2, 2), 301, (), True), (line(2, 2), 600, (), True),
            (line(2, 2), 301, (0,), True), (line(2, 2), 301, (1,), True), (line(2, 2), 600, (0, 1), False),
            (line(3, 3), 17, (), False), (line(3, 3), 18, (), True), (line(4, 4), 6, (), False),
            (line(4, 4), 7, (), True), (line(8, 8), 2, (), False), (line(8, 8), 3, (), True),
            (line(8, 8), 600, (), True), (line(8, 8), 600, tuple(range(8)), False), (line(8, 8), 600, tuple(range(7)), True),
            (line(8, 8), 300, tuple(range(1, 8)), False), (line(8, 1), 600, (), False), (line(8, 2), 300, (2, 5), False),
            (line(8, 2), 301, (2, 5), True), (line(3, 3), 300, (1,), True), (line(3, 3), 300, (1, 2), False),
            (tracks(3, 200), 18, (), True), ((NAMES[:2], (("apart", 0, 1, 9999, 9999),)), 301, (), True),
            ((NAMES[:2], (("span", 0, 1, 1, 1), ("span", 0, 1, 2, 2))), 301, (), True),
        ):
            beats = (0,) * len(plan[0])
            refusals = [refused(times_or_none_with, plan, period, beats, stays)]
            if not stays:
                refusals.append(refused(times_or_none, plan, period))
            for refusal in refusals:
                plan_is_refused(self, many, refusal)

    def test_too_many_just_where_the_size_is(self):
        rng = seeded("too many")
        for _ in range(1000):
            plan = some_plan(rng, rng.randint(1, 8), rng.choice((0, 1, 2, 4, 8)), 9999)
            period = rng.choice((1, 2, 3, 4, 6, 17, 18, 299, 300, 301, 600))
            beats = some_beats(rng, plan, period)
            stays = tuple([work for work in range(len(plan[0])) if rng.random() < 0.4])
            for some in ((), stays):
                refusal = refused(times_or_none_with, plan, period, beats, some)
                plan_is_refused(self, slow_size(plan, period, some) > 300, refusal)

    def test_moved_and_called_otherwise(self):
        rng = seeded("moved times")
        seen = 0
        for _ in range(300):
            plan, period, beats, stays = random_small(rng)
            if slow_size(plan, period, ()) > 300:
                continue
            word, times = times_or_none(plan, period)
            self.assertEqual(times_or_none(plan_turned(plan), period)[0], word)
            named = (NAMES[::-1][:len(plan[0])], plan[1])
            self.assertEqual(times_or_none(named, period)[0], word)
            if word == "times":
                seen += 1
                self.assertIsNone(unkept(plan, period, shifted(period, times, 7)))
                self.assertIsNone(unkept(plan_turned(plan), period, beats_turned(period, times)))
                if refused(plan_many, plan, 3) is None:
                    self.assertIsNone(unkept(plan_many(plan, 3), 3 * period, beats_many(times, 3)))
        self.assertGreater(seen, 50)

    def test_asked_again_behind_other_plans(self):
        plans = [(tracks(4, 2), 6), (tracks(3, 2), 6), (tracks(4, 2), 5), (line(2, 2), 300), ((("a",), ()), 600)]
        first = [self.right(plan, period) for plan, period in plans]
        self.assertEqual(first, ["none", "times", "none", "times", "times"])
        for _ in range(3):
            refused(times_or_none, line(8, 8), 600)
            for (plan, period), word in reversed(list(zip(plans, first))):
                self.assertEqual(self.right(plan, period), word)
                self.assertEqual(self.right(plan, period, (0,) * len(plan[0]), ()), word)


if __name__ == "__main__":
    unittest.main()
