"""[23], [5] The rounds by which there are times, and the least of them with its papers."""

import unittest

from beatplans.nonechecker import lets_none
from beatplans.plans import are_beats, unkept
from beatplans.roundchecker import lets_round
from beatplans.rounds import least_round, rounds_there
from tests.helpers import (
    NAMES, depth_of, kept_plan, line, nodes_of, plan_is_refused, refused, seeded, slow_all_times, slow_fault, slow_keeps,
    slow_size, some_beats, some_plan, tracks,
)


def first_great(plan, most):
    """The first round up to the most by which the plan is too great, None where there is none."""
    for period in range(1, most + 1):
        if slow_size(plan, period, ()) > 300:
            return period
    return None


def slow_rounds(plan, most):
    """The rounds up to the most by which there are times, all beats gone through."""
    return [period for period in range(1, most + 1) if slow_all_times(plan, period)]


class Rounds(unittest.TestCase):

    def there(self, plan, most):
        """The list that is told, of the right kinds."""
        shown = repr(plan)
        rounds = rounds_there(plan, most)
        self.assertEqual(repr(plan), shown)
        self.assertIs(type(rounds), list)
        self.assertLessEqual({type(period) for period in rounds}, {int})
        return rounds

    def least(self, plan, most):
        """The least round that is told, None of none; what is told with it is right."""
        shown = repr(plan)
        told = least_round(plan, most)
        self.assertEqual(repr(plan), shown)
        if told is None:
            return None
        self.assertIs(type(told), tuple)
        period, times, papers = told
        self.assertIs(type(period), int)
        self.assertTrue(1 <= period <= most)
        self.assertIs(are_beats(plan, period, times), True)
        self.assertIsNone(unkept(plan, period, times))
        self.assertTrue(slow_keeps(plan, period, times))
        self.assertIs(type(papers), tuple)
        self.assertEqual(len(papers), period - 1)
        for lesser, cases in enumerate(papers, 1):
            self.assertIs(lets_none(plan, lesser, cases), True)
            self.assertIsNone(slow_fault(plan, lesser, (), (), cases))
            self.assertLessEqual(nodes_of(cases), 20000)
            self.assertLessEqual(depth_of(cases), 100)
        self.assertIs(lets_round(plan, told), True)
        return period

    def answers(self, plan, most, rounds):
        """Just these rounds are there, and the least of them is told."""
        self.assertEqual(self.there(plan, most), rounds)
        self.assertEqual(self.least(plan, most), rounds[0] if rounds else None)

    def test_told_by_hand(self):
        every = list(range(1, 61))
        for plan, rounds in (
            ((("a",), ()), every), ((NAMES, ()), every), ((NAMES[:2], (("span", 0, 1, 7, 7),)), every),
            ((NAMES[:1], (("span", 0, 0, 6, 6),)), [1, 2, 3, 6]), ((NAMES[:1], (("span", 0, 0, 0, 0),)), every),
            ((NAMES[:1], (("span", 0, 0, 41, 59),)), [period for period in every if 59 // period > 40 // period]),
            ((NAMES[:2], (("span", 0, 1, 7, 7), ("span", 0, 1, 12, 12))), [1, 5]),
            ((NAMES[:2], (("span", 0, 1, 20, 25), ("span", 1, 0, 20, 25))),
             [period for period in every if 50 // period > 39 // period]),
            ((NAMES[:2], (("span", 0, 1, 7, 7), ("span", 0, 1, 12, 12), ("span", 0, 0, 1, 59))), [1, 5]),
            ((NAMES[:2], (("apart", 0, 1, 15, 25),)), list(range(40, 61))), ((NAMES[:2], (("apart", 0, 1, 60, 41),)), []),
            ((NAMES[:2], (("apart", 0, 1, 30, 30),)), [60]), ((NAMES[:2], (("apart", 0, 1, 30, 31),)), []),
            ((NAMES[:2], (("apart", 1, 0, 0, 1),)), every), ((NAMES[:2], (("apart", 0, 0, 0, 60),)), [60]),
            ((NAMES[:2], (("apart", 0, 1, 0, 9999),)), []), ((NAMES[:2], (("span", 0, 0, 61, 61),)), [1]),
        ):
            self.answers(plan, 60, rounds)
            for most in (1, 2, 5, 6, 39, 40, 59):
                self.answers(plan, most, [period for period in rounds if period <= most])

    def test_single_tracks(self):
        # Three works on one track fit by rounds of three times as long as each holds it.
        for hold in range(1, 7):
            rounds = [period for period in range(1, 18) if period >= 3 * hold]
            self.answers(tracks(3, hold), 17, rounds)

    def test_the_most_itself(self):
        plan = (NAMES[:2], (("apart", 0, 1, 15, 25),))
        self.answers(plan, 39, [])
        self.answers(plan, 40, [40])
        self.answers(plan, 41, [40, 41])
        self.answers((("a",), ()), 1, [1])
        self.answers((NAMES[:2], (("apart", 0, 1, 1, 1),)), 1, [])
        self.answers((NAMES[:2], (("apart", 0, 1, 0, 1),)), 1, [1])

    def test_any_plans(self):
        rng = seeded("rounds")
        seen = {"none": 0, "first": 0, "later": 0}
        for _ in range(250):
            works = rng.randint(1, 4)
            most = rng.choice({1: (1, 20, 60), 2: (1, 20, 60), 3: (1, 9, 17), 4: (1, 5, 6)}[works])
            plan = some_plan(rng, works, rng.randint(0, 7), rng.choice((5, 30, 99, 9999)))
            if rng.random() < 0.6:
                period = rng.randint(1, most)
                plan = kept_plan(rng, plan, period, some_beats(rng, plan, period), rng.choice((0, 2, period)))
                # By a round of 1 all spans are kept: only aparts ask for a longer one.
                for _ in range(rng.randint(0, 3)):
                    one, other = rng.randrange(works), rng.randrange(works)
                    aparts = ("apart", one, other, rng.randint(0, period // 3), rng.randint(1, 1 + period // 2))
                    plan = (plan[0], plan[1] + (aparts,))
            rounds = slow_rounds(plan, most)
            self.answers(plan, most, rounds)
            seen["none" if not rounds else "first" if rounds[0] == 1 else "later"] += 1
        self.assertGreater(min(seen.values()), 20)

    def test_too_many_of_all_rounds(self):
        for plan, great in (
            (line(3, 3), 18), (line(4, 4), 7), (line(5, 5), 5), (line(6, 6), 4), (line(7, 7), 3), (line(8, 8), 3),
            (line(8, 3), 18), (tracks(3, 5), 18), (tracks(3, 60), 18), (tracks(8, 1), 3),
            ((NAMES[:3], (("span", 0, 1, 5, 6), ("span", 2, 1, 5, 6), ("span", 0, 0, 1, 9))), 18),
            ((NAMES[:4], (("span", 0, 1, 5, 6), ("span", 2, 3, 5, 6))), 18),
        ):
            for most in (1, great - 1, great, great + 1, 60):
                plan_is_refused(self, most >= great, refused(rounds_there, plan, most))
        for plan in (line(2, 2), line(8, 2), line(8, 1), tracks(2, 9)):
            plan_is_refused(self, False, refused(rounds_there, plan, 60))
            plan_is_refused(self, False, refused(least_round, plan, 60))

    def test_too_many_of_the_least_round(self):
        # The works fit on one track by a round of 3, 9, 15 and 18; by 18 the plan is too great.
        for hold, least in ((1, 3), (3, 9), (5, 15), (6, None), (60, None)):
            for most in (1, 2, 9, 16, 17, 18, 19, 60):
                refusal = refused(least_round, tracks(3, hold), most)
                plan_is_refused(self, least is None and most >= 18, refusal)
                if refusal is None:
                    self.assertEqual(self.least(tracks(3, hold), most), least if least and least <= most else None)
        for works in (4, 5, 6, 7, 8):
            self.assertEqual(self.least(line(works, works), 60), 1)
            plan_is_refused(self, True, refused(least_round, tracks(works, 20), 60))

    def test_too_many_of_any_plans(self):
        rng = seeded("great rounds")
        seen = {"all": 0, "least": 0}
        for _ in range(150):
            plan = some_plan(rng, rng.randint(3, 8), rng.randint(2, 8), rng.choice((5, 30, 99)))
            most = rng.choice((2, 3, 17, 18, 60))
            great = first_great(plan, most)
            rounds = slow_rounds(plan, (great or most + 1) - 1)
            plan_is_refused(self, great is not None, refused(rounds_there, plan, most))
            plan_is_refused(self, great is not None and not rounds, refused(least_round, plan, most))
            seen["all"] += great is not None
            seen["least"] += great is not None and not rounds
        self.assertGreater(seen["least"], 10)
        self.assertGreater(seen["all"], seen["least"])

    def test_what_is_told_is_the_askers_own(self):
        plan = (NAMES[:2], (("apart", 0, 1, 15, 25),))
        first = rounds_there(plan, 60)
        rounds_there(plan, 60).clear()
        rounds_there(plan, 60).append(5)
        self.assertEqual(rounds_there(plan, 60), first)

    def test_asked_again_behind_other_plans(self):
        plans = [(tracks(3, 3), 17), (tracks(2, 20), 60), (tracks(3, 6), 17), (line(2, 2), 60), ((NAMES, ()), 60)]
        first = [(self.there(*one), self.least(*one)) for one in plans]
        for _ in range(2):
            refused(least_round, tracks(8, 9), 60)
            refused(rounds_there, line(8, 8), 60)
            self.assertEqual([(self.there(*one), self.least(*one)) for one in plans[::-1]], first[::-1])


if __name__ == "__main__":
    unittest.main()
