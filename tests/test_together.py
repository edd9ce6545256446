"""[33], [5] Plans laid together, the beats of one of them, and the shifts of some works."""

import unittest

from beatplans.errors import PlanError, TooMany
from beatplans.plans import is_plan, unkept
from beatplans.together import beats_of, laid_together, shifts_of
from tests.helpers import (
    NAMES, kept_plan, refused, seeded, slow_keeps, slow_length, slow_size, slow_times, some_beats, some_plan, tracks,
)


def some_named(rng, pool, works, spans, most):
    """Any plan whose names are any of these."""
    return (tuple(rng.sample(pool, works)), some_plan(rng, works, spans, most)[1])


def told_spans(plan):
    """The spans with the names of their works."""
    return [(word, plan[0][one], plan[0][other], low, high) for word, one, other, low, high in plan[1]]


class LaidTogether(unittest.TestCase):

    def told(self, one, other):
        """Both laid together, which is a plan as told."""
        shown = repr((one, other))
        plan = laid_together(one, other)
        self.assertEqual(repr((one, other)), shown)
        self.assertIs(is_plan(plan), True)
        self.assertEqual(plan[0], tuple(dict.fromkeys(one[0] + other[0])))
        self.assertEqual(told_spans(plan), told_spans(one) + told_spans(other))
        self.assertEqual(plan[1][:len(one[1])], one[1])
        return plan

    def not_laid(self, word, one, other):
        shown = repr((one, other))
        refusal = refused(laid_together, one, other)
        self.assertEqual(repr((one, other)), shown)
        self.assertIs(type(refusal), TooMany)
        self.assertIsInstance(refusal, PlanError)
        self.assertEqual(refusal.word, word)

    def test_told_by_hand(self):
        ab = (("a", "b"), (("span", 0, 1, 2, 5), ("apart", 1, 1, 7, 3)))
        ca = (("c", "a"), (("span", 0, 1, 1, 1), ("span", 1, 0, 4, 9)))
        self.assertEqual(self.told(ab, ca), (("a", "b", "c"), ab[1] + (("span", 2, 0, 1, 1), ("span", 0, 2, 4, 9))))
        self.assertEqual(self.told(ca, ab), (("c", "a", "b"), ca[1] + (("span", 1, 2, 2, 5), ("apart", 2, 2, 7, 3))))
        self.assertEqual(self.told(ab, (("d",), ())), (("a", "b", "d"), ab[1]))
        self.assertEqual(self.told((("d",), ()), ab), (("d", "a", "b"), (("span", 1, 2, 2, 5), ("apart", 2, 2, 7, 3))))

    def test_all_names_alike(self):
        plan = (NAMES[:3], (("span", 0, 1, 2, 5), ("apart", 2, 1, 7, 3)))
        self.assertEqual(self.told(plan, plan), (plan[0], plan[1] * 2))
        turned = (NAMES[2::-1], plan[1])
        self.assertEqual(self.told(plan, turned), (plan[0], plan[1] + (("span", 2, 1, 2, 5), ("apart", 0, 1, 7, 3))))
        self.assertEqual(self.told(plan, (NAMES[1:2], (("span", 0, 0, 4, 4),))), (plan[0], plan[1] + (("span", 1, 1, 4, 4),)))

    def test_any_plans(self):
        rng = seeded("laid together")
        pool = NAMES + ("x", "yy", "zzz", "w")
        seen = {"laid": 0, "names": 0, "spans": 0, "both": 0}
        for _ in range(600):
            one, other = [some_named(rng, pool, rng.randint(1, 8), rng.randint(0, 24), 99) for _ in "ab"]
            names = len(set(one[0] + other[0])) > 8
            spans = len(one[1] + other[1]) > 24
            if names:
                self.not_laid("names", one, other)
            elif spans:
                self.not_laid("spans", one, other)
            else:
                self.told(one, other)
            seen["both" if names and spans else "names" if names else "spans" if spans else "laid"] += 1
        self.assertGreater(min(seen.values()), 40)

    def test_eight_names_and_twenty_four_spans(self):
        span = ("span", 0, 0, 1, 1)
        for names in range(1, 8):
            for spans in (0, 1, 12, 23, 24):
                one, other = (NAMES[:names], (span,) * spans), (NAMES[names:], (span,) * (24 - spans))
                plan = self.told(one, other)
                self.assertEqual((len(plan[0]), len(plan[1])), (8, 24))
                ninth = (NAMES[names:] + ("x",), (span,) * (24 - spans))
                self.not_laid("names", one, ninth)
                self.not_laid("spans", one, (other[0], (span,) * (25 - spans)))
                # Names ahead of spans, where both are due.
                self.not_laid("names", one, (ninth[0], (span,) * (25 - spans)))
        full = (NAMES, (span,) * 24)
        self.not_laid("spans", full, full)
        self.not_laid("spans", full, (NAMES, (span,)))
        self.told(full, (NAMES, ()))
        self.not_laid("names", full, (("x",), ()))
        self.not_laid("names", (("x",), ()), full)
        self.not_laid("names", full, (("xa", "xb", "xc", "xd", "xe", "xf", "xg", "xh"), (span,) * 24))


class BeatsOf(unittest.TestCase):

    def test_told_by_hand(self):
        one, other = (("a", "b"), ()), (("c", "a"), ())
        self.assertEqual(beats_of(one, other, (5, 6, 7), 0), (5, 6))
        self.assertEqual(beats_of(one, other, (5, 6, 7), 1), (7, 5))
        self.assertEqual(beats_of(other, one, (5, 6, 7), 0), (5, 6))
        self.assertEqual(beats_of(other, one, (5, 6, 7), 1), (6, 7))
        self.assertEqual(beats_of(one, one, (5, 6), 1), (5, 6))

    def test_any_plans(self):
        rng = seeded("beats of one")
        for _ in range(400):
            one = some_named(rng, NAMES, rng.randint(1, 8), 0, 9)
            other = some_named(rng, NAMES, rng.randint(1, 8), 0, 9)
            names = laid_together(one, other)[0]
            beats = tuple([rng.randrange(600) for _ in names])
            shown = repr((one, other, beats))
            at = dict(zip(names, beats))
            for side, plan in enumerate((one, other)):
                told = beats_of(one, other, beats, side)
                self.assertIs(type(told), tuple)
                self.assertEqual(told, tuple([at[name] for name in plan[0]]))
            self.assertEqual(repr((one, other, beats)), shown)

    def test_lengths_stay(self):
        rng = seeded("lengths of one")
        for _ in range(200):
            period = rng.randint(1, 60)
            one = some_named(rng, NAMES, rng.randint(1, 8), rng.randint(0, 12), 99)
            other = some_named(rng, NAMES, rng.randint(1, 8), rng.randint(0, 12), 99)
            both = laid_together(one, other)
            beats = some_beats(rng, both, period)
            lengths = [
                slow_length(span, period, beats_of(one, other, beats, side))
                for side, plan in enumerate((one, other)) for span in plan[1]
            ]
            self.assertEqual(lengths, [slow_length(span, period, beats) for span in both[1]])

    def test_times_of_both_keep_each(self):
        rng = seeded("both kept")
        kept = 0
        for _ in range(300):
            period = rng.choice((2, 3, 4, 6, 17))
            one = some_named(rng, NAMES[:5], rng.randint(1, 3), rng.randint(0, 4), 2 * period)
            other = some_named(rng, NAMES[:5], rng.randint(1, 3), rng.randint(0, 4), 2 * period)
            both = laid_together(one, other)
            if slow_size(both, period, ()) > 300:
                continue
            times = slow_times(both, period, (), ())
            if times is not None:
                kept += 1
                self.assertTrue(slow_keeps(one, period, beats_of(one, other, times, 0)))
                self.assertTrue(slow_keeps(other, period, beats_of(one, other, times, 1)))
            beats = some_beats(rng, both, period)
            keep_each = [
                unkept(plan, period, beats_of(one, other, beats, side)) is None for side, plan in enumerate((one, other))
            ]
            self.assertEqual(unkept(both, period, beats) is None, all(keep_each))
        self.assertGreater(kept, 50)


class ShiftsOf(unittest.TestCase):

    def told(self, plan, period, beats, works):
        """The shifts, which are the ones that are gone through."""
        shown = repr((plan, beats, works))
        shifts = shifts_of(plan, period, beats, works)
        self.assertEqual(repr((plan, beats, works)), shown)
        self.assertIs(type(shifts), list)
        slow = []
        for by in range(period):
            moved = list(beats)
            for work in works:
                moved[work] = (moved[work] + by) % period
            if slow_keeps(plan, period, moved):
                slow.append(by)
        self.assertEqual(shifts, slow)
        for by in shifts:
            self.assertIs(type(by), int)
        return shifts

    def test_told_by_hand(self):
        track = tracks(2, 3)
        self.assertEqual(self.told(track, 10, (0, 3), (1,)), [0, 1, 2, 3, 4])
        self.assertEqual(self.told(track, 10, (0, 5), (1,)), [0, 1, 2, 8, 9])
        self.assertEqual(self.told(track, 10, (0, 3), (0,)), [0, 6, 7, 8, 9])
        self.assertEqual(self.told(track, 10, (0, 1), (0,)), [4, 5, 6, 7, 8])
        self.assertEqual(self.told(track, 10, (0, 3), ()), list(range(10)))
        self.assertEqual(self.told(track, 10, (0, 3), (0, 1)), list(range(10)))
        self.assertEqual(self.told(track, 10, (0, 1), ()), [])
        self.assertEqual(self.told(track, 10, (0, 1), (0, 1)), [])
        self.assertEqual(self.told(track, 5, (0, 1), (1,)), [])
        self.assertEqual(self.told(track, 6, (0, 1), (1,)), [2])
        self.assertEqual(self.told((("a",), ()), 600, (599,), (0,)), list(range(600)))
        self.assertEqual(self.told((("a",), ()), 1, (0,), ()), [0])

    def test_any_plans(self):
        rng = seeded("shifts")
        seen = {"none": 0, "some": 0, "all": 0}
        for _ in range(400):
            period = rng.choice((1, 2, 5, 12, 60))
            plan = some_plan(rng, rng.randint(1, 8), rng.randint(0, rng.choice((3, 24))), 2 * period)
            beats = some_beats(rng, plan, period)
            if rng.random() < 0.7:
                plan = kept_plan(rng, plan, period, beats, rng.choice((0, 1, period // 2, period)))
            chance = rng.choice((0, 0.3, 0.6, 1))
            works = tuple([work for work in range(len(plan[0])) if rng.random() < chance])
            shifts = self.told(plan, period, beats, works)
            if len(works) in (0, len(plan[0])):
                self.assertIn(len(shifts), (0, period))
            seen["none" if not shifts else "all" if len(shifts) == period else "some"] += 1
        self.assertGreater(min(seen.values()), 40)

    def test_a_line_laid_beside_another(self):
        # The works of the one plan moved beside those of the other: the shifts are those by which both are kept.
        one = (("a", "b"), (("span", 0, 1, 4, 6),))
        other = (("c", "d"), (("span", 0, 1, 2, 3), ))
        both = laid_together(one, other)
        track = (both[0], both[1] + (("apart", 1, 2, 3, 3),))
        self.assertEqual(self.told(both, 12, (0, 5, 0, 3), (2, 3)), list(range(12)))
        self.assertEqual(self.told(track, 12, (0, 5, 0, 3), (2, 3)), [0, 1, 2, 8, 9, 10, 11])

    def test_the_list_is_the_askers_own(self):
        first = shifts_of(tracks(2, 3), 10, (0, 3), (1,))
        first.append(99)
        first[0] = 5
        self.assertEqual(self.told(tracks(2, 3), 10, (0, 3), (1,)), [0, 1, 2, 3, 4])


if __name__ == "__main__":
    unittest.main()
