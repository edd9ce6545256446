"""[3], [10] Names, plans, rounds, beats, weights; tops, windows, lengths and what isn't kept."""

import unittest

from beatplans.plans import (
    are_beats, are_weights, is_name, is_plan, is_round, length_of, lengths_of, top_of, unkept, window_of, windows_of,
)
from tests.helpers import (
    FORTY, NAMES, at_path, paths_of, plain_things, put, seeded, slow_keeps, slow_length, slow_top, slow_windows,
    some_beats, some_plan, with_lists, with_truths,
)

PLAN = (("a", "bb"), (("span", 0, 1, 2, 5), ("apart", 1, 0, 4, 3), ("span", 1, 1, 0, 0)))


class Kinds(unittest.TestCase):

    def yes(self, told):
        self.assertIs(told, True)

    def no(self, told):
        self.assertIs(told, False)

    def test_names_at_their_bounds(self):
        for name in ("a", "z", "az", "abcdefgh", "zzzzzzzz", "span", "aa"):
            self.yes(is_name(name))
        for name in ("", "abcdefghi", "zzzzzzzzz", "a" * 100, "aB", "Ab", "a1", "1a", "a b", " a", "a ", "a-b", "a_"):
            self.no(is_name(name))

    def test_names_of_each_sign(self):
        for number in range(32, 127):
            sign = chr(number)
            for name in (sign, "a" + sign, sign + "a", "abc" + sign + "xyz"):
                self.assertIs(is_name(name), sign in "abcdefghijklmnopqrstuvwxyz")

    def test_plain_things_are_nothing_else(self):
        for thing in plain_things():
            shown = repr(thing)
            self.assertIs(is_name(thing), thing in ("span", "ring", "home"))
            self.no(is_plan(thing))
            self.no(is_round(thing))
            self.no(are_beats(PLAN, 60, thing))
            self.no(are_weights(PLAN, thing))
            self.assertEqual(repr(thing), shown)

    def test_plain_things_in_each_place_of_a_plan(self):
        for path in paths_of(PLAN):
            inner = at_path(PLAN, path)
            for thing in plain_things():
                fits = isinstance(inner, str) and path[0] == 0 and thing in ("span", "ring", "home")
                fits = fits or (path == (1, 0, 0) or path == (1, 1, 0) or path == (1, 2, 0)) and thing == "span"
                if path == (1, 1, 0):
                    fits = False
                self.assertIs(is_plan(put(PLAN, path, thing)), fits)

    def test_a_plan_is_a_pair(self):
        self.yes(is_plan(PLAN))
        names, spans = PLAN
        for thing in ((names,), (names, spans, ()), (spans, names), (names, spans, None), names, spans, (), [names, spans]):
            self.no(is_plan(thing))

    def test_lists_and_truths_make_no_plan(self):
        for thing in list(with_lists(PLAN)) + list(with_truths(PLAN)):
            self.no(is_plan(thing))

    def test_how_many_names(self):
        for many in range(1, 9):
            self.yes(is_plan((NAMES[:many], ())))
        self.no(is_plan(((), ())))
        self.no(is_plan((NAMES + ("i",), ())))
        self.no(is_plan((NAMES + ("i", "j", "k"), ())))

    def test_names_of_a_plan(self):
        for names in (("a", "a"), ("a", "b", "a"), ("x", "a", "b", "b"), ("",), ("a", ""), ("abcdefghi",), ("A",)):
            self.no(is_plan((names, ())))
        self.yes(is_plan((("abcdefgh", "a"), ())))
        self.no(is_plan(((["a"], "b"), ())))
        self.no(is_plan((({}, {}), ())))
        self.no(is_plan(("ab", ())))
        self.no(is_plan(("a", ())))
        self.no(is_plan(({"a": 1}, ())))

    def test_how_many_spans(self):
        span = ("span", 0, 0, 0, 1)
        for many in (0, 1, 2, 23, 24):
            self.yes(is_plan((("a",), (span,) * many)))
        for many in (25, 26, 100):
            self.no(is_plan((("a",), (span,) * many)))

    def test_words_of_spans(self):
        for word in ("", "Span", "spans", "aparts", "apar", "spa", "ring", "home", "s", "span ", None, 0, ("span",)):
            self.no(is_plan((("a",), ((word, 0, 0, 0, 0),))))
        for word in ("span", "apart"):
            self.yes(is_plan((("a",), ((word, 0, 0, 0, 0),))))

    def test_works_of_spans(self):
        for many in (1, 2, 8):
            for word in ("span", "apart"):
                for one in (-1, 0, many - 1, many, many + 1, FORTY, -FORTY):
                    for other in (-1, 0, many - 1, many, many + 1, FORTY, -FORTY):
                        right = 0 <= one < many and 0 <= other < many
                        self.assertIs(is_plan((NAMES[:many], ((word, one, other, 1, 2),))), right)

    def test_lows_and_highs(self):
        edges = (0, 1, 9998, 9999, -1, 10000, FORTY, -FORTY)
        for low in edges:
            for high in edges:
                within = 0 <= low <= 9999 and 0 <= high <= 9999
                self.assertIs(is_plan((("a",), (("span", 0, 0, low, high),))), within and low <= high)
                self.assertIs(is_plan((("a",), (("apart", 0, 0, low, high),))), within)
        self.yes(is_plan((("a",), (("span", 0, 0, 7, 7),))))
        self.no(is_plan((("a",), (("span", 0, 0, 8, 7),))))
        self.yes(is_plan((("a",), (("apart", 0, 0, 8, 7),))))

    def test_spans_of_another_number_of_things(self):
        span = ("span", 0, 0, 1, 2)
        for thing in (span[:4], span + (3,), (), span[:1], span + span, "spans", {0: span}):
            self.no(is_plan((("a",), (thing,))))
            self.no(is_plan((("a",), (span, thing))))
        self.no(is_plan((("a",), span)))

    def test_a_fault_in_the_last_span_counts(self):
        span = ("span", 0, 0, 1, 2)
        self.no(is_plan((("a",), (span,) * 23 + (("span", 0, 1, 1, 2),))))
        self.no(is_plan((("a",), (span,) * 23 + (("span", 0, 0, 1, 10000),))))

    def test_rounds(self):
        for thing in (1, 2, 60, 599, 600):
            self.yes(is_round(thing))
        for thing in (0, -1, 601, 1000, FORTY, -FORTY, True, False, None, "1", (1,), [1]):
            self.no(is_round(thing))

    def test_beats_at_their_bounds(self):
        for many in (1, 2, 8):
            plan = (NAMES[:many], ())
            for period in (1, 2, 60, 600):
                most = period - 1
                self.yes(are_beats(plan, period, (0,) * many))
                self.yes(are_beats(plan, period, (most,) * many))
                for at in range(many):
                    for wrong in (-1, period, period + 1, FORTY, -FORTY, True, False, None, "0", (0,)):
                        self.no(are_beats(plan, period, (0,) * at + (wrong,) + (0,) * (many - at - 1)))
                for wrong in ((0,) * (many - 1), (0,) * (many + 1), [0] * many, {}, (0,) * 20):
                    self.no(are_beats(plan, period, wrong))

    def test_weights_at_their_bounds(self):
        for many in (1, 2, 24):
            plan = (("a",), (("span", 0, 0, 1, 2),) * many)
            self.yes(are_weights(plan, (0,) * many))
            self.yes(are_weights(plan, (99,) * many))
            for at in range(many):
                for wrong in (-1, 100, FORTY, -FORTY, True, False, None, "0", (0,)):
                    self.no(are_weights(plan, (0,) * at + (wrong,) + (0,) * (many - at - 1)))
            for wrong in ((0,) * (many - 1), (0,) * (many + 1), [0] * many, {}, None, True):
                self.no(are_weights(plan, wrong))
        self.yes(are_weights((NAMES, ()), ()))
        self.no(are_weights((NAMES, ()), []))
        self.no(are_weights((NAMES, ()), (0,)))

    def test_what_is_handed_in_stays(self):
        for make in (lambda: [["a"], [["span", 0, 0, 1, 2]]], lambda: (("a",), [["span", 0, 0, 1, 2]])):
            thing = make()
            for _ in range(2):
                self.no(is_plan(thing))
                self.no(are_beats(PLAN, 60, thing))
                self.no(are_weights(PLAN, thing))
                self.assertEqual(thing, make())


class Lengths(unittest.TestCase):

    def test_told_by_hand(self):
        plan = (("a", "b"), (("span", 0, 1, 5, 8), ("apart", 0, 1, 3, 4), ("span", 1, 1, 0, 0), ("span", 1, 0, 25, 70)))
        self.assertEqual([top_of(plan, 10, s) for s in range(4)], [8, 6, 0, 70])
        self.assertEqual(windows_of(plan, 10), ((5, 8), (3, 6), (0, 0), (25, 34)))
        self.assertEqual(lengths_of(plan, 10, (9, 4)), (5, 5, 0, 25))
        self.assertEqual(lengths_of(plan, 10, (4, 8)), (14, 4, 0, 26))
        self.assertIsNone(unkept(plan, 10, (9, 4)))
        self.assertEqual(unkept(plan, 10, (4, 8)), 0)
        self.assertEqual(unkept(plan, 10, (3, 0)), 1)

    def test_tops_and_windows_at_their_edges(self):
        plan = (("a",), (("span", 0, 0, 3, 12), ("span", 0, 0, 3, 11), ("span", 0, 0, 3, 13), ("apart", 0, 0, 3, 8)))
        self.assertEqual(windows_of(plan, 10), ((3, 12), (3, 11), (3, 12), (3, 2)))
        plan = (("a",), (("apart", 0, 0, 3, 7), ("apart", 0, 0, 0, 0), ("apart", 0, 0, 0, 9999), ("apart", 0, 0, 0, 1)))
        self.assertEqual(windows_of(plan, 10), ((3, 3), (0, 9), (0, -9989), (0, 9)))
        self.assertEqual([top_of(plan, 10, s) for s in range(4)], [3, 10, -9989, 9])
        self.assertEqual(window_of(plan, 1, 0), (3, -6))
        self.assertEqual(window_of(plan, 1, 1), (0, 0))

    def test_void_windows_are_never_kept(self):
        plan = (("a", "b"), (("apart", 0, 1, 6, 5),))
        self.assertEqual(windows_of(plan, 10), ((6, 5),))
        for one in range(10):
            for other in range(10):
                self.assertEqual(unkept(plan, 10, (one, other)), 0)

    def test_against_slow_reckonings(self):
        rng = seeded("lengths")
        for turn in range(600):
            period = rng.choice((1, 2, 3, 7, 60, 599, 600))
            most = rng.choice((3, period, 3 * period, 9999))
            plan = some_plan(rng, rng.randint(1, 8), rng.randint(0, 24), min(most, 9999))
            beats = some_beats(rng, plan, period)
            lengths = tuple([slow_length(span, period, beats) for span in plan[1]])
            tops = [slow_top(span, period) for span in plan[1]]
            windows = slow_windows(plan, period)
            for _ in range(2):
                self.assertEqual(lengths_of(plan, period, beats), lengths)
                self.assertEqual(windows_of(plan, period), windows)
            lacking = None
            for s in reversed(range(len(plan[1]))):
                self.assertEqual(length_of(plan, period, beats, s), lengths[s])
                self.assertEqual(top_of(plan, period, s), tops[s])
                self.assertEqual(window_of(plan, period, s), windows[s])
                self.assertEqual(windows[s][0] <= lengths[s] <= windows[s][1], lengths[s] <= tops[s])
                if lengths[s] > tops[s]:
                    lacking = s
            self.assertEqual(unkept(plan, period, beats), lacking)
            self.assertEqual(unkept(plan, period, beats) is None, slow_keeps(plan, period, beats))

    def test_a_work_with_itself(self):
        for low, length in ((0, 0), (1, 60), (59, 60), (60, 60), (61, 120), (9999, 10020)):
            plan = (("a", "b"), (("span", 1, 1, low, 9999),))
            for beat in (0, 1, 59):
                self.assertEqual(length_of(plan, 60, (7, beat), 0), length)
        self.assertEqual(unkept((("a",), (("span", 0, 0, 9999, 9999),)), 60, (5,)), 0)
        self.assertIsNone(unkept((("a",), (("span", 0, 0, 60, 60),)), 60, (5,)))

    def test_a_round_of_one(self):
        plan = (("a", "b"), (("span", 0, 1, 9999, 9999), ("span", 1, 0, 0, 9999)))
        self.assertEqual(windows_of(plan, 1), ((9999, 9999), (0, 0)))
        self.assertEqual(lengths_of(plan, 1, (0, 0)), (9999, 0))
        self.assertIsNone(unkept(plan, 1, (0, 0)))

    def test_the_first_of_several(self):
        spans = (("span", 0, 1, 0, 9), ("span", 0, 1, 0, 1), ("span", 0, 1, 0, 0), ("span", 0, 1, 5, 5))
        plan = (("a", "b"), spans)
        self.assertEqual(unkept(plan, 10, (0, 5)), 1)
        self.assertEqual(unkept(plan, 10, (0, 1)), 2)
        self.assertEqual(unkept(plan, 10, (0, 0)), 3)
        self.assertIsNone(unkept((("a",), ()), 10, (9,)))

    def test_kinds_that_are_told(self):
        windows = windows_of(PLAN, 10)
        self.assertIs(type(windows), tuple)
        for window in windows + (window_of(PLAN, 10, 0),):
            self.assertIs(type(window), tuple)
            self.assertEqual([type(number) for number in window], [int, int])
        self.assertIs(type(lengths_of(PLAN, 10, (3, 4))), tuple)
        self.assertEqual(lengths_of((("a",), ()), 10, (3,)), ())
        self.assertEqual(windows_of((("a",), ()), 10), ())
        self.assertIs(type(unkept(PLAN, 10, (0, 9))), int)


if __name__ == "__main__":
    unittest.main()
