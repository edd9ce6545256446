"""[5], [1], [2] The promise over the whole program, sentence by sentence, by plans drawn here and reckonings of the test's own."""

import ast
import importlib
import pathlib
import unittest
from itertools import product

from beatplans import errors
from beatplans.alltimes import all_times, lengths_there
from beatplans.boards import board_of, read_board
from beatplans.errors import NoPaper, NoRing, NoRow, NoText, PlanError, TooMany
from beatplans.finding import times_or_none, times_or_none_with
from beatplans.joining import beats_by
from beatplans.late import lateness_of
from beatplans.latechecker import lets_late
from beatplans.latepapers import late_paper
from beatplans.lines import plan_lines, read_plan
from beatplans.mending import mended
from beatplans.movechecker import differing, lets_moved
from beatplans.moving import beats_divided, beats_many, beats_turned, plan_many, plan_turned, shifted, walked
from beatplans.nonechecker import lets_none, lets_none_with
from beatplans.plans import are_beats, is_plan, lengths_of, unkept
from beatplans.prices import waits_of
from beatplans.rings import is_ring, rounds_in
from beatplans.roundchecker import lets_round
from beatplans.rounds import least_round, rounds_there
from beatplans.together import beats_of, laid_together, shifts_of
from beatplans.turns import vehicle_at, vehicle_row, vehicles
from beatplans.waitchecker import lets_waits
from beatplans.waiting import least_waits
from tests.helpers import (
    NAMES, all_beats, free_small, kept_plan, random_small, refused, seeded, slow_all_times, slow_differing, slow_fewest, slow_keeps,
    slow_lateness, slow_length, slow_parts, slow_size, slow_times, slow_waits, slow_windows, some_beats, some_late, some_plan,
    some_rings, some_weights,
)
from tests.test_latechecker import changed_paper, some_paper
from tests.test_movechecker import moved_at_ends, some_moving
from tests.test_nonechecker import some_cases
from tests.test_turns import begun_at, some_asked
from tests.test_waitchecker import ends_shown
from tests.test_waitchecker import some_cases as some_waits_cases


def small_plan(rng):
    """A plan so small that all beats can be gone through, with a round."""
    period = rng.randint(1, 5)
    plan = some_plan(rng, rng.randint(1, 3), rng.randint(1, 4), rng.choice((period, 2 * period)))
    if rng.random() < 0.5:
        plan = kept_plan(rng, plan, period, some_beats(rng, plan, period), rng.choice((0, 1, period)))
    return (plan, period)


def timed_plan(rng):
    """A plan that isn't too great, a round, and any of its times."""
    while True:
        plan, period = free_small(rng)
        times = slow_times(plan, period, (), ())
        if times is not None:
            by = rng.randrange(period)
            return (plan, period, tuple([(beat + by) % period for beat in times]))


def every_times(plan, period):
    """All times, gone through."""
    return [beats for beats in all_beats(plan, period) if slow_keeps(plan, period, beats)]


def let_by(checker, *things):
    """Whether the checker lets it by; else it refuses with NoPaper."""
    try:
        return checker(*things)
    except NoPaper:
        return False


class JustOneOfBoth(unittest.TestCase):

    def test_times_or_cases(self):
        rng = seeded("promise: one of both")
        seen = {"times": 0, "none": 0}
        for _ in range(400):
            plan, period, beats, stays = random_small(rng)
            word, found = times_or_none_with(plan, period, beats, stays)
            there = slow_times(plan, period, beats, stays) is not None
            self.assertEqual(word, "times" if there else "none")
            if there:
                self.assertIs(are_beats(plan, period, found), True)
                self.assertTrue(slow_keeps(plan, period, found))
                self.assertTrue(all(found[work] == beats[work] for work in stays))
            else:
                self.assertIs(lets_none_with(plan, period, beats, stays, found), True)
            seen[word] += 1
        self.assertGreater(min(seen.values()), 60)

    def test_all_that_seeks_says_the_same(self):
        rng = seeded("promise: the same")
        seen = {"times": 0, "none": 0}
        for _ in range(200):
            plan, period = free_small(rng)
            word, found = times_or_none(plan, period)
            seen[word] += 1
            there = word == "times"
            self.assertEqual(bool(all_times(plan, period)), there)
            self.assertEqual(least_waits(plan, period, some_weights(rng, plan))[0], "least" if there else "none")
            self.assertEqual(mended(plan, period, some_beats(rng, plan, period))[0], "mended" if there else "none")
            for s in range(len(plan[1])):
                self.assertEqual(bool(lengths_there(plan, period, s)), there)
            if period <= 60 and slow_size(plan, 60, ()) <= 300:
                self.assertEqual(period in rounds_there(plan, period), there)
        self.assertGreater(min(seen.values()), 40)


class WhoeverWroteIt(unittest.TestCase):

    def test_cases_bounds_and_moving(self):
        rng = seeded("promise: whoever")
        seen = {"none": 0, "waits": 0, "moved": 0}
        for _ in range(1500):
            plan, period = small_plan(rng)
            times = every_times(plan, period)
            beats = some_beats(rng, plan, period)
            windows = slow_windows(plan, period)
            rings = some_rings(rng, plan, ())
            homes = some_rings(rng, plan, tuple(range(len(plan[0]))))
            if not rings:
                continue
            cases = some_cases(rng, plan, period, (), rings, windows, 3)
            if let_by(lets_none, plan, period, cases):
                seen["none"] += 1
                self.assertEqual(times, [])
            weights = some_weights(rng, plan)
            cases = some_waits_cases(rng, period, rings, weights, windows, 2)
            for bound in {min(ends_shown(plan, period, weights, cases, windows), default=10 ** 9), rng.randint(0, 99)}:
                if let_by(lets_waits, plan, period, weights, bound, cases):
                    seen["waits"] += 1
                    self.assertTrue(all(slow_waits(plan, period, weights, row) >= bound for row in times))
            cases = some_moving(rng, plan, period, beats, homes, (windows, [], []), 2)
            for count in {min(moved_at_ends(cases), default=len(beats)), rng.randint(0, 8)}:
                if let_by(lets_moved, plan, period, beats, count, cases):
                    seen["moved"] += count > 0
                    self.assertTrue(all(slow_differing(row, beats) >= count for row in times))
        self.assertGreater(min(seen.values()), 50)

    def test_least_rounds(self):
        rng = seeded("promise: least rounds")
        lets = 0
        for _ in range(400):
            plan, period = small_plan(rng)
            rows = every_times(plan, period)
            papers = []
            for lesser in range(1, period):
                rings = some_rings(rng, plan, ()) or [()]
                found = times_or_none(plan, lesser)
                drawn = some_cases(rng, plan, lesser, (), rings, slow_windows(plan, lesser), 2)
                papers.append(found[1] if found[0] == "none" and rng.random() < 0.8 else drawn)
            thing = (period, rng.choice(rows) if rows else some_beats(rng, plan, period), tuple(papers))
            if let_by(lets_round, plan, thing):
                lets += 1
                self.assertTrue(slow_keeps(plan, period, thing[1]))
                self.assertFalse(any(every_times(plan, lesser) for lesser in range(1, period)))
        self.assertGreater(lets, 50)

    def test_lateness(self):
        rng = seeded("promise: lateness")
        lets = 0
        for _ in range(1500):
            asked = some_late(rng)
            table, chains = some_paper(rng, asked)
            thing = changed_paper(rng, asked, table, chains)
            if let_by(lets_late, *asked, thing):
                lets += bool(thing[1])
                self.assertEqual(thing[0], slow_lateness(*asked))
        self.assertGreater(lets, 100)


class ToldWithPapers(unittest.TestCase):

    def test_waits_and_moved_works(self):
        rng = seeded("promise: papers")
        for _ in range(200):
            plan, period, times = timed_plan(rng)
            weights = some_weights(rng, plan)
            word, waits, told, cases = least_waits(plan, period, weights)
            self.assertEqual(waits, slow_waits(plan, period, weights, told))
            self.assertEqual(waits, waits_of(plan, period, weights, told))
            self.assertTrue(slow_keeps(plan, period, told))
            self.assertLessEqual(waits, slow_waits(plan, period, weights, times))
            self.assertIs(lets_waits(plan, period, weights, waits, cases), True)
            beats = some_beats(rng, plan, period)
            word, told, cases = mended(plan, period, beats)
            self.assertTrue(slow_keeps(plan, period, told))
            self.assertLessEqual(differing(beats, told), slow_differing(beats, times))
            self.assertEqual(differing(beats, told), slow_fewest(plan, period, beats))
            self.assertIs(lets_moved(plan, period, beats, differing(beats, told), cases), True)

    def test_rounds(self):
        rng = seeded("promise: rounds")
        some = 0
        for _ in range(150):
            works = rng.randint(2, 3)
            plan = some_plan(rng, works, rng.randint(0, 4), rng.choice((6, 12, 25)))
            for _ in range(rng.randint(1, 3)):
                one, other = rng.sample(range(works), 2)
                plan = (plan[0], plan[1] + (("apart", one, other, rng.randint(0, 4), rng.randint(0, 4)),))
            shown = least_round(plan, 12)
            slow = next((period for period in range(1, 13) if slow_all_times(plan, period)), None)
            if shown is None:
                self.assertIsNone(slow)
                continue
            some += slow > 1
            self.assertEqual(shown[0], slow)
            self.assertTrue(slow_keeps(plan, slow, shown[1]))
            self.assertIs(lets_round(plan, shown), True)
        self.assertGreater(some, 30)

    def test_lateness(self):
        rng = seeded("promise: late papers")
        for _ in range(300):
            asked = some_late(rng)
            paper = late_paper(*asked)
            self.assertEqual(paper[0], lateness_of(*asked))
            self.assertEqual(paper[0], slow_lateness(*asked))
            self.assertIs(lets_late(*asked, paper), True)


class TimesAgain(unittest.TestCase):

    def test_moved_turned_and_called_otherwise(self):
        rng = seeded("promise: times again")
        for _ in range(250):
            plan, period, times = timed_plan(rng)
            for by in (0, 1, -1, period, rng.randint(-9999, 9999)):
                self.assertTrue(slow_keeps(plan, period, shifted(period, times, by)))
            self.assertTrue(slow_keeps(plan_turned(plan), period, beats_turned(period, times)))
            self.assertIsNone(unkept(plan_turned(plan), period, beats_turned(period, times)))
            order = rng.sample(range(len(times)), len(times))
            spans = tuple([(word, order.index(one), order.index(other), low, high) for word, one, other, low, high in plan[1]])
            called = (tuple(["x" + NAMES[work][:7] for work in order]), spans)
            self.assertIsNone(unkept(called, period, tuple([times[work] for work in order])))
            self.assertEqual(times_or_none(called, period)[0], "times")

    def test_many_fold_and_divided(self):
        rng = seeded("promise: many-fold")
        tried = divided = 0
        for _ in range(400):
            plan, period, times = timed_plan(rng)
            many = rng.randint(1, 5)
            if any(max(span[3:]) * many > 9999 for span in plan[1]) or period * many > 600:
                continue
            tried += 1
            fold = plan_many(plan, many)
            self.assertTrue(slow_keeps(fold, many * period, beats_many(times, many)))
            for by in range(many):
                moved = shifted(many * period, beats_many(times, many), by)
                self.assertTrue(slow_keeps(plan, period, beats_divided(moved, many)))
            if slow_size(fold, many * period, ()) <= 300:
                for row in slow_all_times(fold, many * period)[:20]:
                    divided += 1
                    self.assertIsNone(unkept(plan, period, beats_divided(row, many)))
        self.assertGreater(tried, 100)
        self.assertGreater(divided, 200)


class AroundARing(unittest.TestCase):

    def test_lengths_add_up_to_whole_rounds(self):
        rng = seeded("promise: whole rounds")
        for _ in range(200):
            plan, period = free_small(rng)
            beats = some_beats(rng, plan, period)
            for ring in some_rings(rng, plan, ())[:20]:
                total = sum(way * slow_length(plan[1][s], period, beats) for s, way in ring)
                self.assertEqual(rounds_in(plan, period, beats, ring) * period, total)

    def test_lengths_that_do_come_of_beats(self):
        rng = seeded("promise: of beats")
        seen = {"beats": 0, "ring": 0}
        for _ in range(400):
            plan, period = small_plan(rng)
            windows = slow_windows(plan, period)
            if any(most < least for least, most in windows):
                continue
            lengths = tuple([rng.randint(least, most) for least, most in windows])
            come = [beats for beats in all_beats(plan, period) if lengths_of(plan, period, beats) == lengths]
            word, found = beats_by(plan, period, lengths)
            seen[word] += 1
            self.assertEqual(word, "beats" if come else "ring")
            if word == "ring":
                self.assertIs(is_ring(plan, (), found), True)
                self.assertNotEqual(sum(way * lengths[s] for s, way in found) % period, 0)
                continue
            # Of one alone but for moving: each part by any number, and these are all.
            moved = set()
            parts = slow_parts(plan)
            for shifts in product(range(period), repeat=len(parts)):
                by = {work: shift for part, shift in zip(parts, shifts) for work in part}
                moved.add(tuple([(beat + by[work]) % period for work, beat in enumerate(found)]))
            self.assertEqual(moved, set(come))
            self.assertTrue(all(found[part[0]] == 0 for part in parts))
        self.assertGreater(min(seen.values()), 60)


class TogetherAndAround(unittest.TestCase):

    def test_times_of_both_keep_each(self):
        rng = seeded("promise: together")
        kept = 0
        for _ in range(300):
            period = rng.choice((2, 3, 6, 17))
            one, other = [some_plan(rng, rng.randint(1, 3), rng.randint(0, 3), 2 * period) for _ in "ab"]
            other = (tuple(rng.sample(NAMES[:5], len(other[0]))), other[1])
            both = laid_together(one, other)
            if slow_size(both, period, ()) > 300:
                continue
            word, times = times_or_none(both, period)
            if word == "times":
                kept += 1
                self.assertTrue(slow_keeps(one, period, beats_of(one, other, times, 0)))
                self.assertTrue(slow_keeps(other, period, beats_of(one, other, times, 1)))
        self.assertGreater(kept, 50)

    def test_each_turn_is_done_by_just_one(self):
        rng = seeded("promise: vehicles")
        tried = 0
        while tried < 60:
            plan, period, beats, ring = some_asked(rng)
            total = sum(slow_length(plan[1][s], period, beats) for s, way in ring)
            if not 0 < total // period * len(ring) < 300:
                continue
            tried += 1
            many = vehicles(plan, period, beats, ring)
            self.assertEqual(many * period, total)
            done = {}
            for vehicle in range(many):
                for beat, place in vehicle_row(plan, period, beats, ring, vehicle, 3 * len(ring)):
                    done.setdefault((place, (beat - begun_at(plan, beats, ring, place)) // period), []).append(vehicle)
            for place in range(len(ring)):
                turns = sorted(turn for at, turn in done if at == place)
                self.assertEqual(turns, list(range(turns[0], turns[0] + 3 * many)))
            for (place, turn), who in done.items():
                self.assertEqual(who, [vehicle_at(plan, period, beats, ring, place, turn)])


class TheAskersOwn(unittest.TestCase):

    def test_lists_may_be_changed(self):
        plan, period = (NAMES[:2], (("span", 0, 1, 3, 9), ("span", 1, 0, 3, 9))), 12
        asked = (
            (walked, period, (0, 3), 2), (all_times, plan, period), (lengths_there, plan, period, 0), (rounds_there, plan, 12),
            (shifts_of, plan, period, (0, 3), (1,)), (vehicle_row, plan, period, (0, 3), ((0, 1), (1, 1)), 0, 5),
            (plan_lines, plan), (board_of, plan, period, (0, 3)),
        )
        for deed, *things in asked:
            first = deed(*things)
            self.assertIs(type(first), list)
            kept = list(first)
            self.assertTrue(kept)
            first.reverse()
            first.append(None)
            first[0] = "other"
            self.assertEqual(deed(*things), kept)

    def test_what_was_told_may_be_handed_in_again(self):
        rng = seeded("promise: again")
        for _ in range(60):
            plan, period, times = timed_plan(rng)
            self.assertEqual(read_plan(plan_lines(plan)), plan)
            self.assertEqual(read_board(plan, period, board_of(plan, period, times)), times)
            self.assertIs(is_plan(plan_turned(plan)), True)
            self.assertEqual(plan_turned(plan_turned(plan)), plan)
            far = vehicle_row((("a",), (("span", 0, 0, 1, 9),)), period, (0,), ((0, 1),), 0, 200)
            self.assertEqual(far[-1][0], 199 * period)
            # Many-fold again and again: beats grow as they like, and come back divided.
            grown = times
            for _ in range(30):
                grown = beats_many(grown, 5)
            for _ in range(30):
                grown = beats_divided(grown, 5)
            self.assertEqual(grown, times)


class TheInterface(unittest.TestCase):

    NAMES_OF = {
        "errors": "PlanError NoPaper TooMany NoRing NoText NoRow",
        "plans": "is_name is_plan is_round are_beats are_weights top_of window_of windows_of length_of lengths_of unkept",
        "moving": "shifted walked plan_turned beats_turned beats_many beats_divided plan_many changed narrowed",
        "rings": "is_ring sums_of ring_bars rounds_in", "joining": "parts_of beats_by", "nonechecker": "lets_none lets_none_with",
        "finding": "size_of times_or_none times_or_none_with", "alltimes": "all_times lengths_there",
        "prices": "waits_of shown_by are_prices", "waitchecker": "lets_waits", "waiting": "least_waits",
        "rounds": "rounds_there least_round", "roundchecker": "lets_round", "movechecker": "differing lets_moved", "mending": "mended",
        "late": "buffer_of step_of lateness_of buffer_left", "latechecker": "lets_late", "latepapers": "late_paper",
        "together": "laid_together beats_of shifts_of", "turns": "vehicles vehicle_at vehicle_row", "lines": "plan_lines read_plan",
        "boards": "board_of read_board", "desk": "Desk",
    }
    ARGUMENTS = {
        "is_name": 1, "is_plan": 1, "is_round": 1, "are_beats": 3, "are_weights": 2, "top_of": 3, "window_of": 3, "windows_of": 2,
        "length_of": 4, "lengths_of": 3, "unkept": 3, "shifted": 3, "walked": 3, "plan_turned": 1, "beats_turned": 2, "beats_many": 2,
        "beats_divided": 2, "plan_many": 2, "changed": 3, "narrowed": 3, "is_ring": 3, "sums_of": 5, "ring_bars": 5, "rounds_in": 4,
        "parts_of": 1, "beats_by": 3, "lets_none": 3, "lets_none_with": 5, "size_of": 3, "times_or_none": 2, "times_or_none_with": 4,
        "all_times": 2, "lengths_there": 3, "waits_of": 4, "shown_by": 5, "are_prices": 2, "lets_waits": 5, "least_waits": 3,
        "rounds_there": 2, "least_round": 2, "lets_round": 2, "differing": 2, "lets_moved": 5, "mended": 3, "buffer_of": 4, "step_of": 4,
        "lateness_of": 6, "buffer_left": 5, "lets_late": 7, "late_paper": 6, "laid_together": 2, "beats_of": 4, "shifts_of": 4,
        "vehicles": 4, "vehicle_at": 6, "vehicle_row": 6, "plan_lines": 1, "read_plan": 1, "board_of": 3, "read_board": 3,
    }

    def test_all_is_there(self):
        for module, names in self.NAMES_OF.items():
            held = importlib.import_module(f"beatplans.{module}")
            for name in names.split():
                thing = getattr(held, name)
                self.assertTrue(callable(thing))
                if name in self.ARGUMENTS:
                    self.assertEqual(thing.__code__.co_argcount, self.ARGUMENTS[name], name)

    def test_refusals_stand_under_one_base(self):
        self.assertIs(PlanError.__base__, ValueError)
        for refusal in (NoPaper, TooMany, NoRing, NoText, NoRow):
            self.assertIs(refusal.__base__, PlanError)
        own = [name for name in dir(errors) if isinstance(getattr(errors, name), type)]
        self.assertEqual(sorted(own), ["NoPaper", "NoRing", "NoRow", "NoText", "PlanError", "TooMany"])

    def test_checkers_seek_nothing(self):
        """No checker draws, in whatever many steps, from what seeks."""
        folder = pathlib.Path(__file__).resolve().parent.parent / "beatplans"
        draws = {}
        for path in folder.glob("*.py"):
            rows = [node.module for node in ast.parse(path.read_text()).body if isinstance(node, ast.ImportFrom)]
            draws[path.stem] = [module.partition(".")[2] for module in rows]
        for checker in ("nonechecker", "waitchecker", "roundchecker", "movechecker", "latechecker"):
            reached = [checker]
            for module in reached:
                reached += [other for other in draws[module] if other not in reached]
            seeking = {"finding", "alltimes", "waiting", "rounds", "mending", "latepapers", "forests", "joining"}
            self.assertEqual(set(reached) & seeking, set(), checker)

    def test_refused_of_its_own_class(self):
        void = (("a",), ())
        for call, kind, fields in (
            ((lets_none, void, 5, None), NoPaper, ("shape", 0)), ((times_or_none, (NAMES[:2], (("span", 0, 1, 0, 9),)), 301), TooMany, ("plan",)),
            ((laid_together, (NAMES, ()), (("x",), ())), TooMany, ("names",)), ((read_plan, []), NoText, (0, 0)), ((read_board, void, 1, []), NoText, (0, 0)),
            ((vehicles, (("a",), (("span", 0, 0, 0, 9),)), 5, (0,), ((0, 1),)), NoRing, ("none",)),
        ):
            refusal = refused(*call)
            self.assertIs(type(refusal), kind)
            self.assertEqual(tuple(vars(refusal).values()), fields)


if __name__ == "__main__":
    unittest.main()
