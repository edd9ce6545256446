"""[14] Parts of a plan, and beats by lengths."""

import unittest
from itertools import product

from beatplans.joining import beats_by, parts_of
from beatplans.moving import plan_turned, shifted
from beatplans.plans import are_beats, lengths_of, windows_of
from beatplans.rings import is_ring
from tests.helpers import NAMES, all_beats, seeded, slow_length, slow_parts, slow_windows, some_beats, some_plan


def joined(*pairs, works=8):
    """A plan with a span for each of these pairs of works."""
    return (NAMES[:works], tuple([("span", one, other, 0, 5) for one, other in pairs]))


class Parts(unittest.TestCase):

    def test_told_by_hand(self):
        self.assertEqual(parts_of((("a",), ())), ((0,),))
        self.assertEqual(parts_of(joined(works=8)), tuple([(work,) for work in range(8)]))
        self.assertEqual(parts_of(joined((0, 0), works=1)), ((0,),))
        self.assertEqual(parts_of(joined((1, 1), works=3)), ((0,), (1,), (2,)))
        self.assertEqual(parts_of(joined((0, 1), works=2)), ((0, 1),))
        self.assertEqual(parts_of(joined((1, 0), works=2)), ((0, 1),))
        self.assertEqual(parts_of(joined((2, 0), works=3)), ((0, 2), (1,)))
        self.assertEqual(parts_of(joined((7, 0), (6, 1), (0, 6), works=8)), ((0, 1, 6, 7), (2,), (3,), (4,), (5,)))
        self.assertEqual(parts_of(joined((7, 1), (6, 0), (5, 3))), ((0, 6), (1, 7), (2,), (3, 5), (4,)))

    def test_through_others_in_whatever_direction(self):
        self.assertEqual(parts_of(joined((0, 7), (6, 7), (6, 5), (4, 5), (4, 3), (2, 3), (2, 1))), (tuple(range(8)),))
        self.assertEqual(parts_of(joined((1, 2), (3, 2), (3, 4), (0, 4))), ((0, 1, 2, 3, 4), (5,), (6,), (7,)))
        self.assertEqual(parts_of(joined((6, 7), (4, 5), (2, 3), (0, 1))), ((0, 1), (2, 3), (4, 5), (6, 7)))

    def test_aparts_join_too(self):
        self.assertEqual(parts_of((NAMES[:3], (("apart", 2, 1, 0, 9999),))), ((0,), (1, 2)))

    def test_against_a_slow_reckoning(self):
        rng = seeded("parts")
        for _ in range(1000):
            plan = some_plan(rng, rng.randint(1, 8), rng.choice((0, 1, 2, 3, 4, 5, 7, 12, 24)), 9999)
            parts = slow_parts(plan)
            told = parts_of(plan)
            self.assertEqual(told, parts)
            self.assertEqual({type(thing) for thing in (told,) + told}, {tuple})
            self.assertEqual(parts_of(plan_turned(plan)), parts)
            self.assertEqual(parts_of((plan[0], plan[1][::-1])), parts)
            self.assertEqual(parts_of((plan[0], plan[1][:12] + plan[1][:12])), parts_of((plan[0], plan[1][:12])))
            mixed = list(plan[1])
            rng.shuffle(mixed)
            self.assertEqual(parts_of((plan[0], tuple(mixed))), parts)


class BeatsBy(unittest.TestCase):

    def ring_shows_it(self, plan, period, lengths, told):
        self.assertIs(type(told), tuple)
        word, ring = told
        self.assertEqual(word, "ring")
        self.assertIs(is_ring(plan, (), ring), True)
        self.assertNotEqual(sum(way * lengths[s] for s, way in ring) % period, 0)

    def beats_show_it(self, plan, period, lengths, told):
        self.assertIs(type(told), tuple)
        word, beats = told
        self.assertEqual(word, "beats")
        self.assertIs(are_beats(plan, period, beats), True)
        self.assertEqual(lengths_of(plan, period, beats), lengths)
        for part in slow_parts(plan):
            self.assertEqual(beats[part[0]], 0)

    def test_told_by_hand(self):
        self.assertEqual(beats_by((("a",), ()), 10, ()), ("beats", (0,)))
        self.assertEqual(beats_by((NAMES, ()), 10, ()), ("beats", (0,) * 8))
        plan = (NAMES[:3], (("span", 0, 1, 2, 9), ("span", 1, 2, 0, 9), ("span", 2, 0, 3, 9)))
        self.assertEqual(beats_by(plan, 10, (4, 9, 7)), ("beats", (0, 4, 3)))
        self.ring_shows_it(plan, 10, (4, 9, 8), beats_by(plan, 10, (4, 9, 8)))
        self.assertEqual(beats_by((NAMES[:2], (("span", 1, 0, 0, 9),)), 10, (3,)), ("beats", (0, 7)))
        self.assertEqual(beats_by((NAMES[:4], (("span", 3, 2, 0, 9),)), 10, (3,)), ("beats", (0, 0, 0, 7)))
        self.assertEqual(beats_by((NAMES[:4], (("span", 3, 1, 20, 29),)), 10, (24,)), ("beats", (0, 0, 0, 6)))

    def test_a_work_with_itself(self):
        plan = (("a", "b"), (("span", 1, 1, 0, 40), ("span", 0, 1, 3, 5)))
        self.assertEqual(beats_by(plan, 10, (0, 4)), ("beats", (0, 4)))
        for length in range(1, 10):
            self.ring_shows_it(plan, 10, (length, 4), beats_by(plan, 10, (length, 4)))
        plan = (("a",), (("span", 0, 0, 15, 40),))
        self.assertEqual(beats_by(plan, 10, (20,)), ("beats", (0,)))
        self.ring_shows_it(plan, 10, (21,), beats_by(plan, 10, (21,)))

    def test_alike_spans(self):
        plan = (("a", "b"), (("span", 0, 1, 0, 9),) * 24)
        self.assertEqual(beats_by(plan, 10, (6,) * 24), ("beats", (0, 6)))
        for at in range(24):
            lengths = (6,) * at + (7,) + (6,) * (23 - at)
            self.ring_shows_it(plan, 10, lengths, beats_by(plan, 10, lengths))

    def test_a_fault_in_a_later_part(self):
        plan = (NAMES[:4], (("span", 0, 1, 0, 9), ("span", 3, 2, 0, 9), ("span", 2, 3, 0, 9)))
        self.assertEqual(beats_by(plan, 10, (6, 3, 7)), ("beats", (0, 6, 0, 7)))
        self.ring_shows_it(plan, 10, (6, 3, 8), beats_by(plan, 10, (6, 3, 8)))

    def test_all_lengths_of_small_plans(self):
        rng = seeded("small lengths")
        seen = {"beats": 0, "ring": 0}
        for _ in range(500):
            period = rng.randint(1, 4)
            plan = some_plan(rng, rng.randint(1, 3), rng.randint(0, 4), 2 * period)
            come = {}
            for beats in all_beats(plan, period):
                lengths = tuple([slow_length(span, period, beats) for span in plan[1]])
                if all(beats[part[0]] == 0 for part in slow_parts(plan)):
                    self.assertNotIn(lengths, come)
                    come[lengths] = beats
            windows = slow_windows(plan, period)
            for lengths in product(*[range(least, most + 1) for least, most in windows]):
                if any(least > most for least, most in windows):
                    break
                told = beats_by(plan, period, lengths)
                seen[told[0]] += 1
                if lengths in come:
                    self.assertEqual(told, ("beats", come[lengths]))
                else:
                    self.ring_shows_it(plan, period, lengths, told)
                self.assertEqual(beats_by(plan, period, lengths)[0], told[0])
        self.assertGreater(min(seen.values()), 200)

    def test_lengths_that_come_of_beats(self):
        rng = seeded("of beats")
        for _ in range(1000):
            period = rng.choice((1, 2, 7, 60, 600))
            plan = some_plan(rng, rng.randint(1, 8), rng.randint(0, 24), 3 * period)
            plan = (plan[0], tuple([("span", one, other, low, min(9999, low + period)) for _, one, other, low, _ in plan[1]]))
            beats = some_beats(rng, plan, period)
            lengths = lengths_of(plan, period, beats)
            told = beats_by(plan, period, lengths)
            self.beats_show_it(plan, period, lengths, told)
            for part in slow_parts(plan):
                self.assertEqual(
                    tuple([told[1][work] for work in part]),
                    shifted(period, tuple([beats[work] for work in part]), -beats[part[0]]),
                )
            self.assertEqual(beats_by(plan, period, lengths), told)

    def test_any_lengths_within_the_windows(self):
        rng = seeded("any lengths")
        seen = {"beats": 0, "ring": 0}
        for _ in range(2000):
            period = rng.choice((1, 2, 3, 60, 600))
            plan = some_plan(rng, rng.randint(1, 8), rng.randint(0, 10), 2 * period)
            windows = windows_of(plan, period)
            if any(least > most for least, most in windows):
                continue
            beats = some_beats(rng, plan, period)
            lengths = list(lengths_of(plan, period, beats))
            for s, (least, most) in enumerate(windows):
                if not least <= lengths[s] <= most or rng.random() < 0.1:
                    lengths[s] = rng.randint(least, most)
            lengths = tuple(lengths)
            told = beats_by(plan, period, lengths)
            seen[told[0]] += 1
            if told[0] == "beats":
                self.beats_show_it(plan, period, lengths, told)
            else:
                self.ring_shows_it(plan, period, lengths, told)
        self.assertGreater(min(seen.values()), 100)

    def test_a_round_of_one_takes_all(self):
        rng = seeded("one")
        for _ in range(50):
            plan = some_plan(rng, rng.randint(1, 8), rng.randint(0, 24), 9999)
            plan = (plan[0], tuple([("span",) + span[1:3] + (span[3], 9999) for span in plan[1]]))
            lengths = tuple([span[3] for span in plan[1]])
            self.assertEqual(beats_by(plan, 1, lengths), ("beats", (0,) * len(plan[0])))


if __name__ == "__main__":
    unittest.main()
