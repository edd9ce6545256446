"""[30], [32] Buffers and steps, lateness followed, and the buffer left to a work."""

import unittest
from itertools import product

from beatplans.late import buffer_left, buffer_of, lateness_of, step_of
from tests.helpers import (
    NAMES, seeded, slow_buffer, slow_keeps, slow_late_bounds, slow_lateness, slow_length, slow_step, some_beats, some_late,
    some_plan,
)

# a at 0, b at 20, c at 50 by 60: from a to b 5 beats to spare, from b to c none, from c to the next a 4.
ROUND = (("a", "b", "c"), (("span", 0, 1, 15, 25), ("span", 1, 2, 30, 40), ("span", 2, 0, 6, 12)))
BEATS = (0, 20, 50)
ALL = (0, 1, 2)


def holds(plan, period, beats, waiting, given, many, table):
    """Whether the table is at least as late as it has to be."""
    return all(table[turn][work] >= late for work, turn, late in given) and all(
        table[later][other] >= table[turn][one] - buffer
        for turn, one, later, other, buffer in slow_late_bounds(plan, period, beats, waiting, many)
    )


class BuffersAndSteps(unittest.TestCase):

    def test_told_by_hand(self):
        for span, period, beats, buffer, step in (
            (("span", 0, 1, 15, 25), 60, (0, 20), 5, 0), (("span", 0, 1, 15, 25), 60, (50, 10), 5, 1),
            (("span", 0, 1, 20, 25), 60, (0, 20), 0, 0), (("span", 0, 1, 21, 25), 60, (0, 20), 59, 1),
            (("span", 0, 1, 200, 300), 60, (0, 20), 0, 3), (("span", 0, 1, 201, 300), 60, (0, 20), 59, 4),
            (("span", 0, 1, 200, 300), 60, (1, 20), 59, 4), (("span", 0, 1, 200, 300), 60, (20, 0), 20, 4),
            (("span", 0, 0, 0, 9), 60, (31,), 0, 0), (("span", 0, 0, 1, 9), 60, (31,), 59, 1),
            (("span", 0, 0, 60, 99), 60, (31,), 0, 1), (("span", 0, 0, 61, 99), 60, (31,), 59, 2),
            (("apart", 0, 1, 15, 40), 60, (0, 20), 5, 0), (("apart", 1, 0, 15, 40), 60, (0, 20), 25, 1),
            (("apart", 0, 1, 9999, 9999), 600, (599, 0), 202, 18), (("apart", 0, 1, 9999, 0), 600, (0, 399), 0, 16),
            (("span", 0, 1, 0, 0), 1, (0, 0), 0, 0), (("span", 0, 1, 7, 7), 1, (0, 0), 0, 7),
        ):
            plan = (NAMES[:max(span[1:3]) + 1], (span,))
            for value, told in ((buffer_of(plan, period, beats, 0), buffer), (step_of(plan, period, beats, 0), step)):
                self.assertEqual(value, told, (span, period, beats))
                self.assertIs(type(value), int)

    def test_any_plans(self):
        rng = seeded("buffers")
        seen = {"kept": 0, "unkept": 0, "later": 0, "rounds": 0, "itself": 0}
        for _ in range(300):
            period = rng.choice((1, 2, 3, 7, 60, 600))
            plan = some_plan(rng, rng.randint(1, 8), rng.randint(1, 24), min(9999, rng.choice((1, 2, 9)) * period))
            beats = some_beats(rng, plan, period)
            shown = repr((plan, beats))
            for s, span in enumerate(plan[1]):
                buffer = buffer_of(plan, period, beats, s)
                step = step_of(plan, period, beats, s)
                self.assertEqual((buffer, step), (slow_buffer(span, period, beats), slow_step(span, period, beats)))
                self.assertEqual(beats[span[1]] + span[3] + buffer, beats[span[2]] + step * period)
                self.assertGreaterEqual(step, 0)
                self.assertIn(buffer, range(period))
                self.assertEqual((type(buffer), type(step)), (int, int))
                kept = slow_keeps((plan[0], (span,)), period, beats)
                seen["kept" if kept else "unkept"] += 1
                seen["later"] += step > 0
                seen["rounds"] += step > 2
                seen["itself"] += span[1] == span[2]
            self.assertEqual(repr((plan, beats)), shown)
        self.assertGreater(min(seen.values()), 100)


class Lateness(unittest.TestCase):

    def told(self, plan, period, beats, waiting, given, many):
        """The lateness, which is the one by the test's own reckoning."""
        shown = repr((plan, beats, waiting, given))
        table = lateness_of(plan, period, beats, waiting, given, many)
        self.assertEqual(repr((plan, beats, waiting, given)), shown)
        self.assertIs(type(table), tuple)
        self.assertEqual(len(table), many)
        for row in table:
            self.assertIs(type(row), tuple)
            self.assertEqual(len(row), len(plan[0]))
            for number in row:
                self.assertIs(type(number), int)
        self.assertTrue(holds(plan, period, beats, waiting, given, many, table))
        self.assertEqual(table, slow_lateness(plan, period, beats, waiting, given, many))
        return table

    def test_told_by_hand(self):
        for waiting, given, many, table in (
            (ALL, (), 1, ((0, 0, 0),)), (ALL, ((0, 0, 5),), 2, ((5, 0, 0), (0, 0, 0))),
            (ALL, ((0, 0, 6),), 2, ((6, 1, 1), (0, 0, 0))), (ALL, ((0, 0, 12),), 3, ((12, 7, 7), (3, 0, 0), (0, 0, 0))),
            (ALL, ((0, 0, 30),), 4, ((30, 25, 25), (21, 16, 16), (12, 7, 7), (3, 0, 0))),
            (ALL, ((0, 0, 30),), 1, ((30, 25, 25),)), (ALL, ((2, 1, 30),), 3, ((0, 0, 0), (0, 0, 30), (26, 21, 21))),
            ((), ((0, 0, 30),), 2, ((30, 0, 0), (0, 0, 0))), ((0,), ((0, 0, 30),), 2, ((30, 25, 0), (0, 0, 0))),
            ((1, 2), ((0, 0, 30),), 2, ((30, 0, 0), (0, 0, 0))), ((0, 2), ((0, 0, 30), (2, 0, 9)), 2, ((30, 25, 9), (5, 0, 0))),
            (ALL, ((0, 0, 3), (0, 0, 12), (0, 0, 7)), 1, ((12, 7, 7),)), (ALL, ((1, 0, 0),), 1, ((0, 0, 0),)),
            (ALL, ((0, 0, 12), (1, 0, 8)), 2, ((12, 8, 8), (4, 0, 0))), (ALL, ((0, 0, 12), (1, 0, 6)), 2, ((12, 7, 7), (3, 0, 0))),
            (ALL, ((0, 0, 999),), 1, ((999, 994, 994),)), (ALL, ((1, 1, 6), (0, 0, 0)), 2, ((0, 0, 0), (0, 6, 6))),
        ):
            self.assertEqual(self.told(ROUND, 60, BEATS, waiting, given, many), table, (waiting, given, many))

    def test_given_as_it_is_where_nothing_waits(self):
        given = tuple([(work, turn, late) for work, turn, late in zip((0, 1, 2) * 4, range(12), range(0, 999, 90))])
        self.assertEqual(len(given), 12)
        table = self.told(ROUND, 60, BEATS, (), given, 12)
        for work, turn, late in given:
            self.assertEqual(table[turn][work], late)
        self.assertEqual(sum(map(sum, table)), sum(late for work, turn, late in given))

    def test_each_number_of_turns(self):
        longest = self.told(ROUND, 60, BEATS, ALL, ((0, 0, 99),), 12)
        for many in range(1, 13):
            self.assertEqual(self.told(ROUND, 60, BEATS, ALL, ((0, 0, 99),), many), longest[:many])

    def test_steps_of_some_turns_and_beyond(self):
        for low in (0, 10, 20, 30, 110, 120, 130):
            plan = (("a", "b"), (("span", 0, 1, low, 9999),))
            for beats in ((0, 0), (0, 5), (9, 0)):
                step = slow_step(plan[1][0], 10, beats)
                buffer = slow_buffer(plan[1][0], 10, beats)
                for many in range(1, 13):
                    for turn in {0, many // 2, many - 1}:
                        table = self.told(plan, 10, beats, (0,), ((0, turn, 50),), many)
                        at = [(k, row[1]) for k, row in enumerate(table) if row[1]]
                        self.assertEqual(at, [(turn + step, 50 - buffer)] if turn + step < many else [])

    def test_rings_without_steps_and_buffers(self):
        # All at one beat, each waits for the one ahead: all are as late as the latest, at that turn alone.
        for works in range(1, 9):
            ring = tuple([("span", work, (work + 1) % works, 0, 9) for work in range(works)])
            for late in (0, 1, 999):
                table = self.told((NAMES[:works], ring), 60, (7,) * works, tuple(range(works)), ((works // 2, 1, late),), 3)
                self.assertEqual(table, ((0,) * works, (late,) * works, (0,) * works))
            both = tuple([("span", work, (work + way) % works, 0, 9) for way in (1, -1) for work in range(works)])
            table = self.told((NAMES[:works], both), 60, (7,) * works, tuple(range(2 * works)), ((0, 0, 3), (works - 1, 0, 4)), 1)
            self.assertEqual(table, ((4,) * works,))

    def test_rings_without_buffers_that_go_on_for_ever(self):
        for works, period in ((1, 1), (1, 60), (2, 60), (5, 10), (8, 8)):
            beats = tuple([work * period // works for work in range(works)])
            ring = tuple([
                ("span", work, (work + 1) % works, (beats[(work + 1) % works] - beats[work] - 1) % period + 1, 600)
                for work in range(works)
            ])
            table = self.told((NAMES[:works], ring), period, beats, tuple(range(works)), ((0, 0, 999),), 12)
            self.assertEqual(table, ((999,) * works,) * 12)

    def test_spans_that_are_not_waiting(self):
        rng = seeded("not waiting")
        for _ in range(100):
            plan, period, beats, waiting, given, many = some_late(rng)
            left = tuple([plan[1][s] for s in waiting])
            table = self.told(plan, period, beats, waiting, given, many)
            self.assertEqual(self.told((plan[0], left), period, beats, tuple(range(len(left))), given, many), table)

    def test_any_plans(self):
        rng = seeded("lateness")
        handed = beyond = 0
        for _ in range(1500):
            plan, period, beats, waiting, given, many = some_late(rng)
            table = self.told(plan, period, beats, waiting, given, many)
            handed += sum(number > 0 for row in table for number in row) > len(given)
            beyond += any(slow_step(plan[1][s], period, beats) >= many for s in waiting)
        self.assertGreater(handed, 100)
        self.assertGreater(beyond, 100)

    def test_least_of_all_tables(self):
        # All tables up to the latest that is given: of those that hold the told one is nowhere above another.
        rng = seeded("all tables")
        for _ in range(150):
            works, many, most = rng.choice(((1, 3, 4), (2, 2, 3), (3, 1, 4), (1, 4, 3), (2, 1, 5)))
            period = rng.randint(1, 3)
            plan = some_plan(rng, works, rng.randint(0, 5), 2 * period)
            beats = some_beats(rng, plan, period)
            waiting = tuple([s for s in range(len(plan[1])) if rng.random() < 0.8])
            given = tuple([
                (rng.randrange(works), rng.randrange(many), rng.randint(0, most)) for _ in range(rng.randint(0, 3))
            ])
            told = self.told(plan, period, beats, waiting, given, many)
            for row in product(range(most + 1), repeat=works * many):
                table = tuple([row[turn * works:turn * works + works] for turn in range(many)])
                if holds(plan, period, beats, waiting, given, many, table):
                    self.assertTrue(all(map(int.__le__, sum(told, ()), row)))

    def test_more_given_is_no_less_late(self):
        rng = seeded("more given")
        for _ in range(100):
            plan, period, beats, waiting, given, many = some_late(rng)
            table = self.told(plan, period, beats, waiting, given, many)
            fewer = self.told(plan, period, beats, waiting, given[1:], many)
            self.assertTrue(all(map(int.__le__, sum(fewer, ()), sum(table, ()))))
            self.assertEqual(self.told(plan, period, beats, waiting, given[::-1], many), table)

    def test_asked_again(self):
        rng = seeded("late again")
        asked = [some_late(rng) for _ in range(30)]
        first = [self.told(*one) for one in asked]
        self.assertEqual([self.told(*one) for one in asked[::-1]], first[::-1])


class BufferLeft(unittest.TestCase):

    def told(self, plan, period, beats, waiting, work):
        """The buffer left, which is the one by the test's own reckoning."""
        shown = repr((plan, beats, waiting))
        value = buffer_left(plan, period, beats, waiting, work)
        self.assertEqual(repr((plan, beats, waiting)), shown)
        buffers = []
        for s in waiting:
            one, other = plan[1][s][1:3]
            later = beats[one] + slow_length(plan[1][s], period, beats) > beats[other]
            if one == work and (other != work or later):
                buffers.append(slow_buffer(plan[1][s], period, beats))
        self.assertEqual(value, min(buffers, default=None))
        self.assertIs(type(value), int if buffers else type(None))
        return value

    def test_told_by_hand(self):
        for waiting, work, told in (
            (ALL, 0, 5), (ALL, 1, 0), (ALL, 2, 4), ((), 0, None), ((1, 2), 0, None), ((0,), 0, 5), ((0,), 1, None), ((0,), 2, None),
        ):
            self.assertEqual(self.told(ROUND, 60, BEATS, waiting, work), told)
        more = (("a", "b"), (("span", 0, 1, 2, 9), ("apart", 0, 1, 4, 9), ("span", 0, 1, 9, 9), ("span", 1, 0, 0, 9)))
        for waiting, told in (((0, 1, 2, 3), 1), ((0, 1), 1), ((0, 2), 3), ((2,), 16), ((3,), None)):
            self.assertEqual(self.told(more, 20, (0, 5), waiting, 0), told)

    def test_a_work_with_itself(self):
        # Low 0: at the same turn, not looked at. From 1 on at a later one.
        for low, told in ((0, None), (1, 19), (19, 1), (20, 0), (21, 19), (40, 0)):
            for beat in (0, 7, 19):
                self.assertEqual(self.told((("a",), (("span", 0, 0, low, 9999),)), 20, (beat,), (0,), 0), told)
                plan = (("a", "b"), (("span", 0, 0, low, 9999), ("span", 0, 1, 0, 9999)))
                self.assertEqual(self.told(plan, 20, (beat, (beat + 9) % 20), (0, 1), 0), 9 if told is None else min(9, told))

    def test_late_by_so_much_and_by_one_more(self):
        rng = seeded("buffer left")
        seen = {"none": 0, "left": 0, "more": 0}
        for _ in range(500):
            plan, period, beats, waiting, _, many = some_late(rng)
            for work in range(len(plan[0])):
                left = self.told(plan, period, beats, waiting, work)
                seen["none" if left is None else "left"] += 1
                turn = rng.randrange(many)
                for late in (999,) if left is None else (left, left + 1):
                    table = lateness_of(plan, period, beats, waiting, ((work, turn, late),), many)
                    others = {place[:2] for place in product(range(many), range(len(plan[0]))) if table[place[0]][place[1]]}
                    others.discard((turn, work))
                    if left is None or late == left:
                        self.assertEqual(others, set())
                        continue
                    there = {
                        (turn + slow_step(plan[1][s], period, beats), plan[1][s][2]) for s in waiting
                        if plan[1][s][1] == work and slow_buffer(plan[1][s], period, beats) == left
                    }
                    reached = {place for place in there if place[0] < many and place != (turn, work)}
                    self.assertLessEqual(reached, others)
                    seen["more"] += bool(reached)
        self.assertGreater(min(seen.values()), 100)

    def test_asked_again(self):
        for _ in range(3):
            self.assertEqual([self.told(ROUND, 60, BEATS, ALL, work) for work in ALL], [5, 0, 4])
            self.assertIsNone(self.told(ROUND, 60, BEATS, (), 0))


if __name__ == "__main__":
    unittest.main()
