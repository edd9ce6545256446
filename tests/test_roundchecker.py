"""[24], [5] The checker of least rounds: what is let by, and the first thing that isn't as told."""

import unittest

from beatplans.errors import NoPaper, PlanError
from beatplans.roundchecker import lets_round
from beatplans.rounds import least_round
from tests.helpers import (
    FORTY, NAMES, kept_plan, paths_of, plain_things, put, refused, seeded, slow_all_times, slow_fault, slow_is_whole,
    slow_keeps, some_beats, some_plan, tracks, with_lists, with_truths,
)

# Two works on one track, each holding it for 3 beats: the least round is 6.
TRACK = (("a", "b"), (("apart", 0, 1, 3, 3),))
VOID = ("ring", ((0, 1), (0, -1)))
SHOWN = (6, (0, 3), (VOID,) * 5)

# The window of the one span is void by each round below 600.
LONG = (("a",), (("apart", 0, 0, 0, 600),))

# Lengths of 2 and of 17 come together by rounds that divide 15; by a round of 1 the apart span is void.
GAUGE = (("a", "b"), (("span", 0, 1, 2, 2), ("span", 0, 1, 17, 17), ("apart", 1, 1, 0, 2)))


def slow_round_fault(plan, thing):
    """The word and the number that are told, None where the thing is let by."""
    if type(thing) is not tuple or len(thing) != 3:
        return ("shape", 0)
    period, times, papers = thing
    if not slow_is_whole(period) or not 1 <= period <= 600:
        return ("shape", 0)
    if type(papers) is not tuple or len(papers) != period - 1:
        return ("shape", 0)
    if type(times) is not tuple or len(times) != len(plan[0]):
        return ("times", 0)
    if not all(slow_is_whole(beat) and 0 <= beat < period for beat in times) or not slow_keeps(plan, period, times):
        return ("times", 0)
    for k, cases in enumerate(papers, 1):
        if slow_fault(plan, k, (), (), cases) is not None:
            return ("paper", k)
    return None


class RoundChecker(unittest.TestCase):

    def let_by(self, plan, thing):
        shown = repr((plan, thing))
        self.assertIs(lets_round(plan, thing), True)
        self.assertEqual(repr((plan, thing)), shown)

    def not_let(self, word, at, plan, thing):
        shown = repr((plan, thing))
        refusal = refused(lets_round, plan, thing)
        self.assertIs(type(refusal), NoPaper)
        self.assertIsInstance(refusal, PlanError)
        self.assertEqual((refusal.word, refusal.at), (word, at))
        self.assertIs(type(refusal.at), int)
        self.assertEqual(repr((plan, thing)), shown)

    def same_as_slow(self, plan, thing):
        """The fault that is told, which is the one that the document tells."""
        fault = slow_round_fault(plan, thing)
        if fault is None:
            self.let_by(plan, thing)
        else:
            self.not_let(fault[0], fault[1], plan, thing)
        return fault

    def test_right_ones(self):
        self.let_by(TRACK, SHOWN)
        self.let_by(TRACK, (6, (2, 5), (VOID,) * 5))
        self.let_by(TRACK, (6, (5, 2), (VOID,) * 5))
        self.let_by(LONG, (600, (0,), (VOID,) * 599))
        self.let_by(LONG, (600, (599,), (VOID,) * 599))

    def test_a_round_of_one(self):
        plan = (("a", "b"), (("span", 0, 1, 5, 5),))
        self.let_by(plan, (1, (0, 0), ()))
        self.let_by((("a",), ()), (1, (0,), ()))
        self.not_let("shape", 0, plan, (1, (0, 0), (VOID,)))
        self.not_let("shape", 0, plan, (1, (0, 0), []))
        self.not_let("shape", 0, plan, (1, (0, 0)))
        self.not_let("shape", 0, plan, (1, (0, 0), None))
        self.not_let("times", 0, plan, (1, (0, 1), ()))
        self.not_let("times", 0, plan, (1, (0,), ()))
        self.not_let("times", 0, TRACK, (1, (0, 0), ()))

    def test_shapes(self):
        for thing in plain_things():
            self.not_let("shape", 0, TRACK, thing)
        period, times, papers = SHOWN
        for thing in (
            list(SHOWN), (period, times, list(papers)), (period, times), (period, times, papers, papers), (times, period, papers),
            (period, papers, times), SHOWN[1:], (SHOWN,), (period, times, papers[:-1]), (period, times, papers + (VOID,)),
            (period, times, ()), (period, times, None), (period, times, {}), (period, times, "abcde"), (5, times, papers),
            (7, times, papers), {6: (times, papers)}, (period, times, {k: VOID for k in range(5)}), (period, None, papers[1:]),
        ):
            self.not_let("shape", 0, TRACK, thing)

    def test_the_round(self):
        papers = SHOWN[2]
        for period in (0, -1, True, False, None, "6", 601, 602, FORTY, -FORTY, (6,), [6], {}, ()):
            self.not_let("shape", 0, TRACK, (period, (0, 3), papers))
            self.not_let("shape", 0, TRACK, (period, (0, 3), ()))
        plan = (("a",), ())
        self.not_let("shape", 0, plan, (True, (0,), ()))
        self.not_let("shape", 0, plan, (0, (0,), ()))
        self.not_let("shape", 0, plan, (0, (), ()))
        self.not_let("shape", 0, LONG, (601, (0,), (VOID,) * 600))
        self.not_let("shape", 0, LONG, (600, (0,), (VOID,) * 600))
        self.not_let("shape", 0, LONG, (600, (0,), (VOID,) * 598))
        self.not_let("times", 0, LONG, (599, (0,), (VOID,) * 598))

    def test_times(self):
        for times in (
            (0, 2), (0, 4), (0, 0), (3, 3), (0, 9), (6, 3), (0, -3), (-3, 0), (0,), (), (0, 3, 0), [0, 3], (0, (3,)), None, "",
            (False, 3), (0, True), (0, None), (0, "3"), {0: 3}, {}, 3, True, FORTY, (0, FORTY), ("times", (0, 3)),
        ):
            self.not_let("times", 0, TRACK, (6, times, (VOID,) * 5))
            # The papers are looked at behind the times alone.
            self.not_let("times", 0, TRACK, (6, times, (None,) * 5))
        for thing in plain_things():
            self.not_let("times", 0, TRACK, (6, thing, (VOID,) * 5))
        self.not_let("times", 0, (("a",), ()), (1, (False,), ()))
        self.not_let("times", 0, (("a",), ()), (1, [0], ()))

    def test_times_by_another_round(self):
        # By 7 and 8 these keep the apart span, by 6 they don't.
        for times in ((0, 4), (0, 5), (6, 2)):
            self.not_let("times", 0, TRACK, (6, times, (VOID,) * 5))
        for period, times in ((7, (0, 3)), (7, (0, 4)), (8, (0, 5))):
            self.assertTrue(slow_keeps(TRACK, period, times))
            self.not_let("paper", 6, TRACK, (period, times, (VOID,) * (period - 1)))

    def test_papers(self):
        for at in range(5):
            for thing in plain_things() + [("ring", ((0, 1),)), list(VOID), ("none", VOID), SHOWN, ("prices", ())]:
                papers = put(SHOWN[2], (at,), thing)
                self.not_let("paper", at + 1, TRACK, (6, (0, 3), papers))
                # The first wrong one of several.
                for other in range(at + 1, 5):
                    self.not_let("paper", at + 1, TRACK, (6, (0, 3), put(papers, (other,), None)))
        for at in (0, 1, 300, 598):
            self.not_let("paper", at + 1, LONG, (600, (0,), put((VOID,) * 599, (at,), None)))

    def test_papers_of_other_rounds(self):
        ring = ("ring", ((0, 1), (1, -1)))
        void = ("ring", ((2, 1), (2, -1)))
        self.let_by(GAUGE, (3, (0, 2), (void, ring)))
        self.not_let("paper", 1, GAUGE, (3, (0, 2), (ring, void)))
        self.not_let("paper", 1, GAUGE, (3, (0, 2), (ring, ring)))
        self.not_let("paper", 2, GAUGE, (3, (0, 2), (void, void)))
        self.not_let("paper", 3, GAUGE, (5, (0, 2), (void, ring, ring, ring)))
        self.not_let("times", 0, GAUGE, (4, (0, 2), (void, ring, ring)))
        rng = seeded("exchanged")
        wrong = 0
        for hold in (2, 3, 4):
            plan = (NAMES[:3], tracks(3, hold)[1] + (("span", 0, 1, 0, 9), ("span", 1, 2, 0, 9)))
            period, times, papers = least_round(plan, 17)
            for _ in range(40):
                order = list(papers)
                rng.shuffle(order)
                wrong += self.same_as_slow(plan, (period, times, tuple(order))) is not None
        self.assertGreater(wrong, 20)

    def test_the_order(self):
        self.not_let("shape", 0, TRACK, (6, None, (None,) * 4))
        self.not_let("shape", 0, TRACK, (0, None, (None,) * 5))
        self.not_let("times", 0, TRACK, (6, None, (None,) * 5))
        self.not_let("paper", 1, TRACK, (6, (0, 3), (None,) * 5))

    def test_everything_changed(self):
        self.let_by(TRACK, SHOWN)
        for path in paths_of(SHOWN):
            for new in plain_things() + [0, 1, 2, 3, 5, 6, 7, (0, 3), VOID, (VOID,) * 5]:
                self.same_as_slow(TRACK, put(SHOWN, path, new))
        for thing in list(with_lists(SHOWN)) + list(with_truths(SHOWN)):
            self.assertIsNotNone(self.same_as_slow(TRACK, thing))

    def test_deep_papers(self):
        # A hundred within one another, each split cutting one length off.
        plan = (("a", "b"), (("span", 0, 1, 0, 200), ("span", 0, 0, 120, 120), ("apart", 0, 0, 0, 120)))
        void = ("ring", ((2, 1), (2, -1)))

        def deep(end):
            cases = end
            for cut in reversed(range(99)):
                cases = ("split", 0, cut, void, cases)
            return cases

        papers = (void,) * 109 + (deep(void),) + (void,) * 9
        self.let_by(plan, (120, (0, 0), papers))
        self.not_let("paper", 110, plan, (120, (0, 0), put(papers, (109,), deep(None))))
        self.not_let("paper", 110, plan, (120, (0, 0), put(papers, (109,), deep(("ring", ((0, 1), (0, -1)))))))
        # By a round of 50 there is nothing to cut any more.
        self.not_let("paper", 50, plan, (120, (0, 0), put(papers, (49,), deep(void))))

    def test_whatever_is_let_by_is_the_least(self):
        rng = seeded("least rounds")
        seen = {}
        for _ in range(400):
            works = rng.randint(1, 3)
            plan = some_plan(rng, works, rng.randint(1, 4), 12)
            if rng.random() < 0.7:
                period = rng.randint(2, 9)
                plan = kept_plan(rng, plan, period, some_beats(rng, plan, period), 1)
                plan = (plan[0], plan[1] + (("apart", 0, works - 1, rng.randint(0, 3), rng.randint(1, 6)),))
            rounds = [period for period in range(1, 13) if slow_all_times(plan, period)]
            told = least_round(plan, 12)
            voids = [("ring", ((s, 1), (s, -1))) for s in range(len(plan[1]))]
            things = [told] if told else []
            for period in rounds:
                times = rng.choice(slow_all_times(plan, period))
                papers = tuple([
                    told[2][k - 1] if k < told[0] and rng.random() < 0.9 else rng.choice(voids) for k in range(1, period)
                ])
                other = some_beats(rng, plan, period)
                things += [(period, times, papers), (period, times, papers[1:]), (period, times, papers[::-1])]
                things.append((period, other, papers))
            things.append((rng.randint(1, 12), some_beats(rng, plan, 3), (rng.choice(voids),) * rng.randint(0, 11)))
            for thing in things:
                fault = self.same_as_slow(plan, thing)
                seen[fault and fault[0]] = seen.get(fault and fault[0], 0) + 1
                if fault is None:
                    self.assertEqual(thing[0], rounds[0])
        for word in (None, "shape", "times", "paper"):
            self.assertGreater(seen.get(word, 0), 50, word)

    def test_asked_again(self):
        for _ in range(3):
            self.let_by(TRACK, SHOWN)
            self.not_let("paper", 6, TRACK, (7, (0, 3), (VOID,) * 6))
            self.let_by((("a",), ()), (1, (0,), ()))
            self.not_let("times", 0, TRACK, (6, (0, 2), (VOID,) * 5))


if __name__ == "__main__":
    unittest.main()
