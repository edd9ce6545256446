"""[37] The desk: each row's answer, at first and behind others; what is refused changes nothing."""

import re
import unittest

from beatplans.desk import Desk
from beatplans.errors import NoRow, PlanError, TooMany
from tests.helpers import (
    NAMES, seeded, slow_all_times, slow_differing, slow_fewest, slow_keeps, slow_lateness, slow_length, slow_size, slow_top,
    slow_waits,
)

NUMBER = "(?:0|[1-9][0-9]{0,3})"
NAME = "[a-z]{1,8}"
FORMS = {
    "works": f"works(?: {NAME}){{1,8}}", "span": f"span {NAME} {NAME} {NUMBER} {NUMBER}", "apart": f"apart {NAME} {NAME} {NUMBER} {NUMBER}",
    "drop": f"drop {NUMBER}", "undo": "undo", "round": f"round {NUMBER}", "hold": f"hold(?: {NUMBER}){{1,8}}", "held": "held",
    "find": "find", "mend": "mend", "waits": f"waits(?: {NUMBER})*", "least": f"least {NUMBER}", "plan": "plan", "board": "board",
    "late": f"late {NAME} {NUMBER} {NUMBER}",
}
NO_ROW = "no row"
TOO_MANY = "too many"


def slow_unkept(plan, period, beats):
    """The first span that beats don't keep, None where they keep all."""
    for s, span in enumerate(plan[1]):
        if slow_length(span, period, beats) > slow_top(span, period):
            return s
    return None


class SlowDesk:
    """A desk by the test's own reckoning: it tells what has to be answered, and takes over what is told of any."""

    def __init__(self):
        self.names = ()
        self.spans = []
        self.period = 60
        self.beats = None
        self.done = []

    def whole(self):
        return (self.names, tuple(self.spans))

    def great(self, period):
        return slow_size(self.whole(), period, ()) > 300

    def want(self, row):
        """The answer, NO_ROW, TOO_MANY, or a def that looks at the answer where any is told."""
        word = re.split(" ", row)[0]
        if word not in FORMS or not re.fullmatch(FORMS[word], row):
            return NO_ROW
        if not self.names and word not in ("works", "round"):
            return NO_ROW
        if self.beats is None and word in ("mend", "board", "late"):
            return NO_ROW
        return {"apart": self.span}.get(word) or getattr(self, word)

    def answer(self, row):
        deed = self.want(row)
        return deed if isinstance(deed, str) else deed(row.split(" "))

    def works(self, words):
        if len(set(words[1:])) < len(words[1:]):
            return NO_ROW
        self.names, self.spans, self.beats, self.done = tuple(words[1:]), [], None, []
        return "ok"

    def span(self, words):
        word, one, other, low, high = words
        if one not in self.names or other not in self.names or len(self.spans) > 23:
            return NO_ROW
        if word == "span" and int(high) < int(low):
            return NO_ROW
        self.spans.append((word, self.names.index(one), self.names.index(other), int(low), int(high)))
        self.done.append(("laid",))
        return f"{len(self.spans) - 1}"

    def drop(self, words):
        s = int(words[1])
        if s >= len(self.spans):
            return NO_ROW
        self.done.append(("dropped", s, self.spans.pop(s)))
        return "ok"

    def undo(self, words):
        if not self.done:
            return NO_ROW
        last = self.done.pop()
        if last[0] == "laid":
            del self.spans[-1]
        else:
            self.spans.insert(last[1], last[2])
        return "ok"

    def round(self, words):
        period = int(words[1])
        if not 1 <= period <= 600:
            return NO_ROW
        if period != self.period:
            self.beats = None
        self.period = period
        return "ok"

    def hold(self, words):
        beats = tuple(map(int, words[1:]))
        if len(beats) != len(self.names) or max(beats) >= self.period:
            return NO_ROW
        self.beats = beats
        s = slow_unkept(self.whole(), self.period, beats)
        return "kept" if s is None else f"lacks {s}"

    def held(self, words):
        return "-" if self.beats is None else " ".join(map(str, self.beats))

    def find(self, words):
        if self.great(self.period):
            return TOO_MANY
        return self.found if slow_all_times(self.whole(), self.period) else "none"

    def found(self, case, text):
        """What is found are times, and held from now on."""
        case.assertRegex(text, f"^{NUMBER}( {NUMBER})*$")
        beats = tuple(map(int, text.split(" ")))
        case.assertEqual(len(beats), len(self.names))
        case.assertTrue(all(beat < self.period for beat in beats))
        case.assertTrue(slow_keeps(self.whole(), self.period, beats))
        self.beats = beats

    def mend(self, words):
        if self.great(self.period):
            return TOO_MANY
        return "none" if slow_fewest(self.whole(), self.period, self.beats) is None else self.mended

    def mended(self, case, text):
        """What is mended are times that differ at fewest works, and held from now on."""
        many, _, rest = text.partition(" ")
        ahead = self.beats
        fewest = slow_fewest(self.whole(), self.period, ahead)
        self.found(case, rest)
        case.assertEqual(many, str(fewest))
        case.assertEqual(slow_differing(ahead, self.beats), fewest)

    def waits(self, words):
        weights = tuple(map(int, words[1:]))
        if len(weights) != len(self.spans) or max(weights, default=0) > 99:
            return NO_ROW
        if self.great(self.period):
            return TOO_MANY
        rows = slow_all_times(self.whole(), self.period)
        return str(min(slow_waits(self.whole(), self.period, weights, row) for row in rows)) if rows else "none"

    def least(self, words):
        most = int(words[1])
        if not 1 <= most <= 60:
            return NO_ROW
        for period in range(1, most + 1):
            if self.great(period):
                return TOO_MANY
            if slow_all_times(self.whole(), period):
                return str(period)
        return "none"

    def plan(self, words):
        rows = [" ".join(("works",) + self.names)]
        rows += [" ".join((word, self.names[one], self.names[other], str(low), str(high))) for word, one, other, low, high in self.spans]
        return "; ".join(rows)

    def board(self, words):
        rows = []
        for beat in range(self.period):
            names = [name for name, at in zip(self.names, self.beats) if at == beat]
            rows.append(f"{beat} {' '.join(names or ['-'])}")
        return "; ".join(rows)

    def late(self, words):
        late, many = int(words[2]), int(words[3])
        if words[1] not in self.names or late > 999 or not 1 <= many <= 12:
            return NO_ROW
        given = ((self.names.index(words[1]), 0, late),)
        table = slow_lateness(self.whole(), self.period, self.beats, tuple(range(len(self.spans))), given, many)
        return " ".join(str(number) for row in table for number in row)


class DeskTestCase(unittest.TestCase):

    def setUp(self):
        self.desk = Desk()
        self.slow = SlowDesk()

    def told(self, row):
        """The answer of the desk, NO_ROW or TOO_MANY; it is the one that has to be."""
        return self.told_by(self.desk, self.slow, row)

    def told_by(self, desk, slow, row):
        answer = self.said(desk, row)
        want = slow.answer(row)
        if isinstance(want, str):
            self.assertEqual(answer, want, row)
        else:
            want(self, answer)
        return answer

    def said(self, desk, row):
        try:
            answer = desk.say(row)
        except PlanError as refusal:
            if type(refusal) is TooMany:
                self.assertEqual(refusal.word, "plan")
                return TOO_MANY
            self.assertIs(type(refusal), NoRow)
            self.assertIs(refusal.row, row)
            return NO_ROW
        self.assertIs(type(answer), str)
        return answer

    def all_told(self, *pairs):
        for row, answer in pairs:
            self.assertEqual(self.told(row), answer, row)
            self.stands()

    def stands(self):
        """All that the desk holds is what it has to hold, asked without changing it."""
        if self.slow.names:
            self.told("plan")
            self.told("held")

    def says(self, *rows):
        for row in rows:
            self.assertNotIn(self.told(row), (NO_ROW, TOO_MANY), row)


class Rows(DeskTestCase):

    def test_at_first(self):
        for row in (
            "span a a 0 0", "apart a a 0 0", "drop 0", "undo", "hold", "hold 0", "held", "find", "mend", "waits", "waits 0", "least 5", "plan",
            "board", "late a 0 1", "works", "works A", "round 0", "round", "", " ", "x", "help",
        ):
            self.assertEqual(self.told(row), NO_ROW, row)
        self.all_told(("round 61", "ok"), ("held", NO_ROW), ("works a", "ok"), ("held", "-"), ("plan", "works a"))
        self.all_told(("hold 60", "kept"), ("hold 61", NO_ROW), ("held", "60"))

    def test_the_first_round_is_sixty(self):
        self.all_told(("works a", "ok"), ("hold 60", NO_ROW), ("hold 59", "kept"), ("round 60", "ok"), ("held", "59"), ("board", self.board(60, 59)))

    def board(self, period, at):
        return "; ".join([f"{beat} {'a' if beat == at else '-'}" for beat in range(period)])

    def test_by_hand(self):
        self.all_told(
            ("works out back", "ok"), ("round 45", "ok"), ("span out back 20 25", "0"), ("span back out 20 25", "1"), ("hold 0 22", "kept"),
            ("held", "0 22"), ("mend", "0 0 22"), ("waits 1 1", "5"), ("waits 0 0", "0"), ("late out 9 3", "9 7 4 2 0 0"), ("late back 0 1", "0 0"),
            ("hold 0 30", "lacks 0"), ("hold 0 19", "lacks 0"), ("hold 22 0", "kept"), ("apart out back 26 3", "2"), ("held", "22 0"),
            ("waits 1 1 0", "none"), ("least 60", "none"), ("drop 2", "ok"), ("least 60", "1"), ("undo", "ok"), ("find", "none"),
            ("mend", "none"), ("held", "22 0"), ("plan", "works out back; span out back 20 25; span back out 20 25; apart out back 26 3"),
        )

    def test_works(self):
        for row in ("works a", "works a b c d e f g h", "works works span held", "works aaaaaaaa"):
            self.assertEqual(self.told(row), "ok")
            self.assertEqual(self.told("plan"), row)
        self.says("works a b", "span a b 1 2", "hold 5 6")
        for row in (
            "works", "works ", "works a a", "works a b a", "works a  b", "works a b ", " works a", "works a b c d e f g h i", "works A", "works a1",
            "works aaaaaaaaa", "works a,b", "Works a", "works -", "works 1",
        ):
            self.assertEqual(self.told(row), NO_ROW, row)
            self.assertEqual((self.told("plan"), self.told("held")), ("works a b; span a b 1 2", "5 6"))
        self.all_told(("works b a", "ok"), ("plan", "works b a"), ("held", "-"), ("undo", NO_ROW), ("plan", "works b a"))

    def test_spans(self):
        self.says("works a b", "round 10", "hold 0 4")
        for number, row in enumerate(("span a b 0 9999", "apart a b 9999 0", "span b b 5 5", "span a b 0 9999", "apart b a 0 0")):
            self.all_told((row, str(number)), ("held", "0 4"))
        shown = self.told("plan")
        for row in (
            "span a b 5 4", "span a b 10000 10000", "span a b 1 10000", "span a b 01 2", "span a b 1 02", "span a c 1 2", "span c a 1 2",
            "span a b 1", "span a b 1 2 3", "span a b", "span", "span  a b 1 2", "span a b 1 2 ", " span a b 1 2", "span a b -1 2", "span a b +1 2",
            "span 0 1 1 2", "apart a b 1", "apart a b 10000 0", "apart a b 0 10000", "apart a c 0 0", "aparts a b 0 0", "span a b 1. 2", "span a b 1 2;",
        ):
            self.assertEqual(self.told(row), NO_ROW, row)
            self.assertEqual((self.told("plan"), self.told("held")), (shown, "0 4"))

    def test_the_twenty_fifth_span(self):
        self.says("works a b")
        for number in range(24):
            self.assertEqual(self.told("span a b 1 2" if number % 2 else "apart a b 1 2"), str(number))
        self.all_told(
            ("span a b 1 2", NO_ROW), ("apart a b 1 2", NO_ROW), ("undo", "ok"), ("span a a 3 4", "23"), ("span a a 3 4", NO_ROW), ("drop 0", "ok"),
            ("span a a 5 6", "23"), ("span a a 5 6", NO_ROW), ("drop 24", NO_ROW), ("drop 23", "ok"),
        )

    def test_drop_and_undo(self):
        self.says("works a b", "round 20", "hold 3 4", "span a b 1 1", "span a b 2 2", "apart a b 3 3", "span a b 4 4")
        for row in ("drop 4", "drop", "drop ", "drop 01", "drop 0 0", "drop -1", "drop +1", "drop a", "drop 00000", "drop 99999", "drop 9999"):
            self.assertEqual(self.told(row), NO_ROW, row)
        self.all_told(("drop 1", "ok"), ("drop 2", "ok"), ("drop 2", NO_ROW), ("span b a 5 5", "2"), ("drop 0", "ok"), ("held", "3 4"))
        rows = []
        for _ in range(8):
            self.assertEqual(self.told("undo"), "ok")
            rows.append(self.told("plan").count(";"))
            self.assertEqual(self.told("held"), "3 4")
        self.assertEqual(rows, [3, 2, 3, 4, 3, 2, 1, 0])
        self.all_told(("undo", NO_ROW), ("undo", NO_ROW), ("plan", "works a b"), ("held", "3 4"), ("span a b 1 1", "0"), ("undo", "ok"), ("undo", NO_ROW))
        for row in ("undo ", " undo", "undo 1", "undo undo"):
            self.says("span a b 1 1")
            self.assertEqual(self.told(row), NO_ROW, row)
        self.all_told(("drop 4", NO_ROW), ("drop 3", "ok"))

    def test_an_undo_does_not_undo_what_is_undone(self):
        self.says("works a b", "span a b 1 1", "span a b 2 2", "undo", "span a b 3 3", "drop 0", "undo", "undo")
        self.all_told(("plan", "works a b; span a b 1 1"), ("undo", "ok"), ("undo", NO_ROW), ("plan", "works a b"))
        self.says("span a b 1 1", "works a b", "round 9", "hold 1 1")
        self.all_told(("undo", NO_ROW), ("span a b 4 4", "0"), ("round 8", "ok"), ("undo", "ok"), ("undo", NO_ROW))

    def test_rounds(self):
        self.says("works a b")
        for period in (1, 2, 59, 60, 61, 599, 600):
            self.all_told((f"round {period}", "ok"), ("held", "-"), (f"hold {period - 1} 0", "kept"), (f"round {period}", "ok"))
            self.all_told(("held", f"{period - 1} 0"))
            for row in ("round 0", "round 601", "round", "round ", "round 060", "round 6 0", "round -1", "round 9999", "round 10000", "round x"):
                self.all_told((row, NO_ROW), ("held", f"{period - 1} 0"))
            self.all_told((f"hold {period} 0", NO_ROW), (f"hold 0 {period}", NO_ROW))
        self.says("round 50", "round 600")
        self.assertEqual(self.told("held"), "-")

    def test_hold(self):
        self.says("works a b", "round 20", "span a b 3 5", "span b a 3 16")
        for row, answer in (
            ("hold 0 3", "lacks 1"), ("hold 0 4", "kept"), ("hold 0 6", "lacks 0"), ("hold 0 0", "lacks 0"), ("hold 19 3", "kept"), ("hold 19 19", "lacks 0"),
            ("hold 10 7", "lacks 0"), ("hold 0 5", "kept"), ("hold 1 4", "lacks 1"), ("hold 1 5", "kept"),
        ):
            self.all_told((row, answer), ("held", row[5:]))
        self.says("span a a 1 19")
        self.all_told(("hold 0 4", "lacks 2"), ("hold 0 3", "lacks 1"), ("hold 0 2", "lacks 0"))
        for row in ("hold", "hold 0", "hold 0 3 4", "hold 0 20", "hold 20 0", "hold 0  3", "hold 0 3 ", "hold 0 03", "hold a b", "hold -1 3", "hold 0 10000"):
            self.all_told((row, NO_ROW), ("held", "0 2"))

    def test_beats_held_stay_and_go(self):
        self.says("works a b", "round 12", "hold 1 2", "span a b 5 5", "apart a b 1 1", "drop 1", "undo", "undo")
        self.all_told(("held", "1 2"), ("round 12", "ok"), ("held", "1 2"))
        self.says("find", "held", "span a b 6 6", "hold 1 2")
        self.all_told(("find", "none"), ("held", "1 2"), ("mend", "none"), ("held", "1 2"), ("waits 0 0", "none"), ("least 60", "1"), ("held", "1 2"))
        self.says("round 13")
        self.assertEqual(self.told("held"), "-")
        self.says("round 12")
        self.assertEqual(self.told("held"), "-")
        self.all_told(("mend", NO_ROW), ("board", NO_ROW), ("late a 1 1", NO_ROW), ("hold 1 2", "lacks 0"), ("works a b", "ok"), ("held", "-"))

    def test_find_and_mend(self):
        self.says("works a b c", "round 17", "span a b 2 5", "span b c 2 5")
        self.assertEqual(self.told("mend"), NO_ROW)
        found = self.told("find")
        self.all_told(("held", found), ("mend", "0 " + found), ("held", found))
        for row, moved in (("hold 0 0 0", "2"), ("hold 0 0 2", "1"), ("hold 16 1 5", "0"), ("hold 0 1 11", "2")):
            self.says(row)
            answer = self.told("mend")
            self.assertEqual(answer[:2], moved + " ")
            self.all_told(("held", answer[2:]), ("mend", "0 " + answer[2:]))
        for row in ("find ", "find 1", " find", "mend 1", "mend ", "findmend", "held 1", "held ", "plan 1", "plan ", "board 0", "board "):
            self.assertEqual(self.told(row), NO_ROW, row)

    def test_too_great(self):
        self.says("works a b", "span a b 0 599", "hold 5 5")
        for period, many in ((300, False), (301, True), (600, True)):
            self.says(f"round {period}")
            for row, ahead in (("find", None), ("mend", "hold 0 0"), ("waits 3", None), ("find", "hold 1 2"), ("waits 0", "hold 0 0")):
                if ahead:
                    self.says(ahead)
                held = self.told("held")
                answer = self.told(row)
                self.assertEqual(answer == TOO_MANY, many)
                if many:
                    self.assertEqual(self.told("held"), held)
            # Rows that are none are told so ahead of what is too great.
            self.all_told(("waits", NO_ROW), ("waits 100", NO_ROW), ("waits 1 1", NO_ROW), ("find x", NO_ROW), ("mend x", NO_ROW))
        self.says("round 299", "round 600")
        self.all_told(("mend", NO_ROW), ("find", TOO_MANY), ("held", "-"), ("hold 3 3", "kept"), ("mend", TOO_MANY), ("held", "3 3"))

    def test_least(self):
        self.says("works a b", "apart a b 3 3")
        self.all_told(("least 60", "6"), ("least 6", "6"), ("least 5", "none"), ("least 1", "none"), ("held", "-"))
        for row in ("least", "least 0", "least 61", "least 600", "least 06", "least 6 6", "least ", "least -1", "least x"):
            self.assertEqual(self.told(row), NO_ROW, row)
        self.says("round 600")
        self.all_told(("least 60", "6"), ("find", TOO_MANY))
        # Three works that are joined are too great from 18 on: least where a lesser round has times.
        self.says("works a b c", "apart a b 6 6", "apart b c 6 6", "apart a c 6 6")
        self.all_told(("least 17", "none"), ("least 18", TOO_MANY), ("least 60", TOO_MANY))
        self.says("drop 2")
        self.all_told(("least 60", "12"))
        self.says("apart a c 5 5", "hold 1 2 3")
        self.all_told(("least 16", "none"), ("least 17", "17"), ("least 60", "17"), ("find", TOO_MANY), ("held", "1 2 3"))

    def test_waits(self):
        self.says("works a b")
        self.all_told(("waits", "0"), ("waits 0", NO_ROW), ("waits ", NO_ROW), ("held", "-"))
        self.says("round 45", "span a b 20 25", "span b a 20 25")
        for row, answer in (
            ("waits 1 1", "5"), ("waits 0 0", "0"), ("waits 99 99", "495"), ("waits 99 98", "490"), ("waits 0 99", "0"), ("waits", NO_ROW), ("waits 1", NO_ROW),
            ("waits 1 1 1", NO_ROW), ("waits 100 1", NO_ROW), ("waits 1 100", NO_ROW), ("waits 01 1", NO_ROW), ("waits 1  1", NO_ROW), ("waits a b", NO_ROW),
        ):
            self.all_told((row, answer), ("held", "-"))
        self.says("round 60")
        self.assertEqual(self.told("waits 1 1"), "none")

    def test_board(self):
        self.says("works a b c", "round 3", "hold 2 0 2")
        self.all_told(("board", "0 b; 1 -; 2 a c"), ("hold 0 0 0", "kept"), ("board", "0 a b c; 1 -; 2 -"), ("round 2", "ok"), ("board", NO_ROW))
        self.says("round 600", "hold 599 0 77")
        self.assertEqual(self.told("board").count(";"), 599)

    def test_late(self):
        self.says("works a b c", "span a b 15 25", "span b c 30 40", "span c a 6 12")
        self.assertEqual(self.told("late a 1 1"), NO_ROW)
        self.says("hold 0 20 50")
        for row, answer in (
            ("late a 12 3", "12 7 7 3 0 0 0 0 0"), ("late a 0 1", "0 0 0"), ("late a 999 1", "999 994 994"), ("late b 7 2", "0 7 7 3 0 0"), ("late c 4 12", "0 0 4" + " 0" * 33),
        ):
            self.all_told((row, answer), ("held", "0 20 50"))
        for row in (
            "late", "late a", "late a 1", "late a 1 0", "late a 1 13", "late a 1000 1", "late d 1 1", "late a 1 1 1", "late a 01 1", "late a 1 01", "late a  1 1",
            "late a 1 1 ", "late 0 1 1", "late a -1 1", "late A 1 1", "late a 1 10000", "late a 10000 1",
        ):
            self.assertEqual(self.told(row), NO_ROW, row)
        # Beats that keep nothing hand lateness on, too; a span that is dropped doesn't.
        self.says("hold 0 0 0", "late a 99 12", "drop 0")
        self.assertEqual(self.told("late a 99 2"), "99 0 0 0 0 0")

    def test_answers_of_many_figures(self):
        self.says("works a b", "round 300", "span a b 0 9999", "span b a 0 9999", "span a b 150 9999")
        self.assertEqual(self.told("waits 99 99 99"), "14850")

    def test_two_desks(self):
        one, other = (Desk(), SlowDesk()), (Desk(), SlowDesk())
        rng = seeded("two desks")
        rows = {}
        for turn in range(300):
            desk, slow = rng.choice((one, other))
            row = some_row(rng, slow)
            rows.setdefault(slow, []).append((row, self.told_by(desk, slow, row)))
        for slow, told in rows.items():
            alone = Desk()
            for row, answer in told:
                if row not in ("find", "mend"):
                    self.assertEqual(self.said(alone, row), answer)
                elif answer not in ("none", NO_ROW, TOO_MANY):
                    alone.say("hold " + answer if row == "find" else "hold " + answer.partition(" ")[2])

    def test_any_rows(self):
        rng = seeded("any rows")
        seen = {}
        for _ in range(400):
            self.setUp()
            for _ in range(60):
                row = some_row(rng, self.slow)
                if rng.random() < 0.25:
                    row = changed_row(rng, row)
                answer = self.told(row)
                kind = answer if answer in (NO_ROW, TOO_MANY, "none") else "told"
                seen[row.split(" ")[0], kind] = seen.get((row.split(" ")[0], kind), 0) + 1
            self.stands()
        for word in FORMS:
            self.assertGreater(seen.get((word, "told"), 0), 40, word)
            self.assertGreater(seen.get((word, NO_ROW), 0), 20, word)
        for word in ("find", "mend", "waits", "least"):
            self.assertGreater(seen.get((word, "none"), 0), 10, word)
            self.assertGreater(seen.get((word, TOO_MANY), 0), 5, word)

    def test_what_is_refused_changes_nothing(self):
        rng = seeded("refused rows")
        for _ in range(60):
            self.setUp()
            bare = Desk()
            for _ in range(40):
                row = some_row(rng, self.slow)
                if rng.random() < 0.4:
                    row = changed_row(rng, row)
                answer = self.told(row)
                if answer not in (NO_ROW, TOO_MANY):
                    self.said(bare, row)
                    if row in ("find", "mend") and answer != "none":
                        self.said(bare, "hold " + self.told("held"))
            for row in ("plan", "held", "board", "least 3"):
                self.assertEqual(self.said(bare, row), self.told(row))
            while self.told("undo") == "ok":
                self.assertEqual(self.said(bare, "undo"), "ok")
                self.assertEqual(self.said(bare, "plan"), self.told("plan"))
            self.assertEqual(self.said(bare, "undo"), NO_ROW)


def some_row(rng, slow):
    """Any row, mostly one that can be asked of a desk that stands so."""
    works = len(slow.names)
    name = rng.choice(slow.names or ("a",))
    other = rng.choice(slow.names or ("a",))
    low = rng.randint(0, rng.choice((3, 12, 30)))
    high = low + rng.randint(0, rng.choice((2, 8)))
    beats = " ".join(str(rng.randrange(slow.period)) for _ in range(works))
    weights = "".join(f" {rng.choice((0, 1, 99, 7))}" for _ in slow.spans)
    if not works and rng.random() < 0.7:
        return "works " + " ".join(rng.sample(NAMES, rng.choice((1, 2, 2, 3, 3, 4, 8))))
    return rng.choice((
        "works " + " ".join(rng.sample(NAMES, rng.choice((1, 2, 3, 8)))) if rng.random() < 0.15 else "plan",
        f"span {name} {other} {low} {high}", f"span {name} {other} {low} {high}", f"apart {name} {other} {low} {rng.randint(0, 4)}",
        f"drop {rng.randint(0, max(0, len(slow.spans)))}", "undo", f"round {rng.choice((1, 2, 3, 4, 6, 6, 12, 17, 17, 18, 60, 300, 301))}",
        f"hold {beats}", f"hold {beats}", "held", "find", "find", "mend", "mend", f"waits{weights}", f"waits{weights}",
        f"least {rng.randint(1, 20)}", "plan", "board", f"late {name} {rng.choice((0, 5, 99, 999))} {rng.randint(1, 12)}",
    ))


def changed_row(rng, row):
    """The row with a word, a blank or a sign changed; perhaps it can be asked still."""
    words = row.split(" ")
    at = rng.randrange(len(words))
    place = rng.randint(0, len(row))
    return rng.choice((
        " ".join(words[:at] + words[at + 1:]), " ".join(words + [words[at]]), " ".join(words + ["0"]), " ".join(words[:at] + ["10000"] + words[at + 1:]),
        " ".join(words[:at] + ["0" + words[at]] + words[at + 1:]), row[:place] + " " + row[place:], row + " ", " " + row,
        row[:place] + rng.choice("abz09-+A~.;") + row[place:], row[:place] + row[place + 1:], words[0], "",
    ))


if __name__ == "__main__":
    unittest.main()
