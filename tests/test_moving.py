"""[11], [12] Beats and plans shifted, walked, turned about, many-fold, divided, changed and narrowed."""

import unittest

from beatplans.errors import PlanError, TooMany
from beatplans.moving import (
    beats_divided, beats_many, beats_turned, changed, narrowed, plan_many, plan_turned, shifted, walked,
)
from beatplans.plans import are_beats, is_plan, lengths_of, unkept
from tests.helpers import NAMES, kept_plan, refused, seeded, slow_keeps, some_beats, some_plan, some_span

PERIODS = (1, 2, 7, 60, 600)


class Shifted(unittest.TestCase):

    def test_told_by_hand(self):
        self.assertEqual(shifted(10, (0, 3, 9), 0), (0, 3, 9))
        self.assertEqual(shifted(10, (0, 3, 9), 1), (1, 4, 0))
        self.assertEqual(shifted(10, (0, 3, 9), -1), (9, 2, 8))
        self.assertEqual(shifted(10, (0, 3, 9), 10), (0, 3, 9))
        self.assertEqual(shifted(10, (0, 3, 9), -10), (0, 3, 9))
        self.assertEqual(shifted(10, (0, 3, 9), 12345), (5, 8, 4))
        self.assertEqual(shifted(10, (0, 3, 9), -12345), (5, 8, 4))
        self.assertEqual(shifted(1, (0,), 10 ** 39 + 1), (0,))
        self.assertEqual(shifted(7, (6, 0), -10 ** 39), ((6 - 10 ** 39) % 7, (-10 ** 39) % 7))

    def test_shifted_beats_are_beats_and_lengths_stay(self):
        rng = seeded("shifted")
        for _ in range(300):
            period = rng.choice(PERIODS)
            plan = some_plan(rng, rng.randint(1, 8), rng.randint(0, 8), 3 * period)
            beats = some_beats(rng, plan, period)
            by = rng.choice((rng.randint(-5, 5), rng.randint(-9999, 9999), rng.randint(-10 ** 38, 10 ** 38)))
            told = shifted(period, beats, by)
            self.assertIs(type(told), tuple)
            self.assertIs(are_beats(plan, period, told), True)
            for old, new in zip(beats, told):
                self.assertEqual((new - old - by) % period, 0)
            self.assertEqual(lengths_of(plan, period, told), lengths_of(plan, period, beats))
            self.assertEqual(shifted(period, told, -by), beats)
            self.assertEqual(shifted(period, beats, by), told)


class Walked(unittest.TestCase):

    def test_told_by_hand(self):
        self.assertEqual(walked(10, (3,), 1), [(3, 0)])
        self.assertEqual(walked(10, (3, 0, 3), 1), [(0, 1), (3, 0), (3, 2)])
        self.assertEqual(walked(10, (9, 0), 3), [(0, 1), (9, 0), (10, 1), (19, 0), (20, 1), (29, 0)])
        self.assertEqual(walked(1, (0, 0), 2), [(0, 0), (0, 1), (1, 0), (1, 1)])

    def test_for_one_to_forty_rounds(self):
        rng = seeded("walked")
        for many in range(1, 41):
            period = rng.choice(PERIODS)
            beats = tuple([rng.randrange(period) for _ in range(rng.randint(1, 8))])
            told = walked(period, beats, many)
            self.assertIs(type(told), list)
            self.assertEqual({type(row) for row in told}, {tuple})
            self.assertEqual(len(told), many * len(beats))
            self.assertEqual(told, sorted(set(told)))
            for beat, work in told:
                self.assertEqual(beat % period, beats[work])
                self.assertIn(beat // period, range(many))

    def test_the_list_is_the_askers_own(self):
        first = walked(10, (3, 5), 2)
        kept = list(first)
        first.append("more")
        first[0] = None
        self.assertEqual(walked(10, (3, 5), 2), kept)
        first.clear()
        self.assertEqual(walked(10, (3, 5), 2), kept)


class Turned(unittest.TestCase):

    def test_told_by_hand(self):
        plan = (("a", "b"), (("span", 0, 1, 2, 5), ("apart", 1, 0, 4, 3), ("span", 1, 1, 0, 7)))
        turned = (("a", "b"), (("span", 1, 0, 2, 5), ("apart", 0, 1, 4, 3), ("span", 1, 1, 0, 7)))
        self.assertEqual(plan_turned(plan), turned)
        self.assertEqual(plan_turned((("a",), ())), (("a",), ()))
        self.assertEqual(beats_turned(10, (0, 1, 5, 9)), (0, 9, 5, 1))
        self.assertEqual(beats_turned(1, (0, 0)), (0, 0))

    def test_lengths_stay_and_twice_is_back(self):
        rng = seeded("turned")
        for _ in range(300):
            period = rng.choice(PERIODS)
            plan = some_plan(rng, rng.randint(1, 8), rng.randint(0, 24), 3 * period)
            beats = some_beats(rng, plan, period)
            about, back = plan_turned(plan), beats_turned(period, beats)
            self.assertIs(is_plan(about), True)
            self.assertIs(are_beats(plan, period, back), True)
            for beat, turned in zip(beats, back):
                self.assertEqual(turned, period - beat if beat else 0)
            self.assertEqual(lengths_of(about, period, back), lengths_of(plan, period, beats))
            self.assertEqual(unkept(about, period, back), unkept(plan, period, beats))
            self.assertEqual(plan_turned(about), plan)
            self.assertEqual(beats_turned(period, back), beats)


class Many(unittest.TestCase):

    def test_told_by_hand(self):
        plan = (("a", "b"), (("span", 0, 1, 2, 5), ("apart", 1, 0, 4, 3)))
        self.assertEqual(plan_many(plan, 1), plan)
        self.assertEqual(plan_many(plan, 3), (("a", "b"), (("span", 0, 1, 6, 15), ("apart", 1, 0, 12, 9))))
        self.assertEqual(plan_many((("a",), ()), 5), (("a",), ()))
        self.assertEqual(beats_many((0, 3, 9), 4), (0, 12, 36))
        self.assertEqual(beats_many((0, 3, 9), 1), (0, 3, 9))
        self.assertEqual(beats_divided((0, 3, 4, 7, 8), 4), (0, 0, 1, 1, 2))
        self.assertEqual(beats_divided((0, 3, 9), 1), (0, 3, 9))

    def test_refused_just_above_the_bound(self):
        quiet = ("span", 0, 0, 0, 1)
        for many in range(1, 6):
            for number in sorted({9999 // many - 1, 9999 // many, 9999 // many + 1, 9999, 9998}):
                if number > 9999:
                    continue
                for span in (("span", 0, 0, 0, number), ("apart", 0, 0, 0, number), ("apart", 0, 0, number, 0),
                             ("span", 0, 0, number, number)):
                    for spans in ((span,), (quiet, span), (span, quiet), (quiet,) * 23 + (span,)):
                        refusal = refused(plan_many, (("a",), spans), many)
                        if number * many <= 9999:
                            self.assertIsNone(refusal)
                            told = plan_many((("a",), spans), many)[1][spans.index(span)]
                            self.assertEqual(told, span[:3] + (span[3] * many, span[4] * many))
                        else:
                            self.assertIs(type(refusal), TooMany)
                            self.assertIsInstance(refusal, PlanError)
                            self.assertEqual(refusal.word, "span")

    def test_nine_thousand_nine_hundred_ninety_nine_itself(self):
        self.assertEqual(plan_many((("a",), (("span", 0, 0, 3333, 3333),)), 3)[1], (("span", 0, 0, 9999, 9999),))
        self.assertEqual(refused(plan_many, (("a",), (("span", 0, 0, 0, 3334),)), 3).word, "span")
        self.assertEqual(plan_many((("a",), (("apart", 0, 0, 9999, 9999),)), 1)[1], (("apart", 0, 0, 9999, 9999),))
        self.assertEqual(refused(plan_many, (("a",), (("apart", 0, 0, 5000, 0),)), 2).word, "span")
        self.assertEqual(plan_many((("a",), (("apart", 0, 0, 4999, 0),)), 2)[1], (("apart", 0, 0, 9998, 0),))

    def test_lengths_and_times_are_many_fold(self):
        rng = seeded("many")
        for _ in range(300):
            period, many = rng.choice((1, 2, 7, 60, 600)), rng.randint(1, 5)
            plan = some_plan(rng, rng.randint(1, 8), rng.randint(0, 8), min(1999, 3 * period))
            beats = some_beats(rng, plan, period)
            if rng.random() < 0.5:
                plan = kept_plan(rng, plan, period, beats, 2)
                if refused(plan_many, plan, many):
                    continue
                self.assertTrue(slow_keeps(plan, period, beats))
            great, far = plan_many(plan, many), beats_many(beats, many)
            self.assertIs(type(far), tuple)
            self.assertIs(is_plan(great), True)
            lengths = lengths_of(plan, period, beats)
            self.assertEqual(lengths_of(great, period * many, far), tuple([many * one for one in lengths]))
            self.assertEqual(unkept(great, period * many, far), unkept(plan, period, beats))
            self.assertEqual(beats_divided(far, many), beats)

    def test_divided_times_are_times(self):
        rng = seeded("divided")
        seen = 0
        while seen < 40:
            period, many = rng.randint(1, 6), rng.randint(2, 5)
            plan = some_plan(rng, 3, 3, period + 2)
            great = plan_many(plan, many)
            beats = tuple([rng.randrange(period * many) for _ in plan[0]])
            if slow_keeps(great, period * many, beats):
                seen += 1
                divided = beats_divided(beats, many)
                self.assertIs(are_beats(plan, period, divided), True)
                self.assertIsNone(unkept(plan, period, divided))


class Changed(unittest.TestCase):

    def test_told_by_hand(self):
        plan = (("a", "b"), (("span", 0, 1, 2, 5), ("apart", 1, 0, 4, 3), ("span", 1, 1, 0, 7)))
        span = ("apart", 1, 1, 9, 0)
        self.assertEqual(changed(plan, 0, span), (plan[0], (span, plan[1][1], plan[1][2])))
        self.assertEqual(changed(plan, 1, span), (plan[0], (plan[1][0], span, plan[1][2])))
        self.assertEqual(changed(plan, 2, span), (plan[0], (plan[1][0], plan[1][1], span)))
        self.assertEqual(narrowed(plan, 1, 0)[1][1], ("span", 1, 0, 0, 0))
        self.assertEqual(narrowed(plan, 0, 9999)[1][0], ("span", 0, 1, 9999, 9999))
        self.assertEqual(narrowed(plan, 2, 6)[1][2], ("span", 1, 1, 6, 6))

    def test_all_else_stays(self):
        rng = seeded("changed")
        for _ in range(200):
            plan = some_plan(rng, rng.randint(1, 8), rng.randint(1, 24), 9999)
            shown = repr(plan)
            s = rng.randrange(len(plan[1]))
            span = some_span(rng, len(plan[0]), 9999)
            length = rng.choice((0, 9999, rng.randint(0, 9999)))
            one, other = plan[1][s][1:3]
            for told, new in ((changed(plan, s, span), span),
                              (narrowed(plan, s, length), ("span", one, other, length, length))):
                self.assertIs(is_plan(told), True)
                self.assertEqual(told[0], plan[0])
                self.assertEqual(len(told[1]), len(plan[1]))
                for at, row in enumerate(told[1]):
                    self.assertEqual(row, new if at == s else plan[1][at])
            self.assertEqual(repr(plan), shown)

    def test_beats_with_a_length_keep_the_plan_narrowed_to_it(self):
        rng = seeded("narrowed")
        for _ in range(200):
            period = rng.choice(PERIODS)
            plan = some_plan(rng, rng.randint(1, 8), rng.randint(1, 6), 2 * period)
            beats = some_beats(rng, plan, period)
            for s, length in enumerate(lengths_of(plan, period, beats)):
                self.assertEqual(lengths_of(narrowed(plan, s, length), period, beats)[s], length)
                if period > 1:
                    self.assertEqual(lengths_of(narrowed(plan, s, length + 1), period, beats)[s], length + period)


class Kinds(unittest.TestCase):

    def test_tuples_are_told(self):
        plan = (NAMES, (("span", 0, 7, 1, 2),))
        for told in (plan_turned(plan), plan_many(plan, 2), changed(plan, 0, ("span", 1, 1, 0, 0)), narrowed(plan, 0, 5)):
            self.assertIs(type(told), tuple)
            self.assertIs(type(told[0]), tuple)
            self.assertIs(type(told[1]), tuple)
            self.assertIs(type(told[1][0]), tuple)
        for told in (beats_turned(9, (1, 2)), beats_many((1, 2), 2), beats_divided((1, 2), 2), shifted(9, (1, 2), 3)):
            self.assertIs(type(told), tuple)
            self.assertEqual([type(beat) for beat in told], [int, int])


if __name__ == "__main__":
    unittest.main()
