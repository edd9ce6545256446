"""[36] Boards of beats, and boards read as the beats again, or refused where they can't stand."""

import unittest

from beatplans.boards import board_of, read_board
from beatplans.errors import NoText, PlanError
from beatplans.plans import are_beats
from tests.helpers import changed_lines, refused, seeded, some_beats, some_plan

PLAN = (("a", "bb", "c"), (("span", 0, 1, 3, 15),))
BOARD = ["0 bb", "1 -", "2 a c", "3 -"]


def slow_read(plan, period, lines):
    """The beats that a board writes, or the list [row, word] where it can't stand."""
    names = list(plan[0])
    beats = {}
    for row, line in enumerate(lines):
        if row >= period:
            return [row, 0]
        words = line.split(" ")
        if words[0] != f"{row}":
            return [row, 0]
        if len(words) == 1:
            return [row, 1]
        if words[1] == "-":
            if len(words) > 2:
                return [row, 2]
            continue
        free = [name for name in names if name not in beats]
        for at, word in enumerate(words[1:], 1):
            if word not in free:
                return [row, at]
            beats[word] = row
            free = free[free.index(word) + 1:]
    if len(lines) < period or len(beats) < len(names):
        return [len(lines), 0]
    return tuple([beats[name] for name in names])


class Boards(unittest.TestCase):

    def read(self, plan, period, lines):
        """What comes of reading, which is what the document tells."""
        shown = repr((plan, lines))
        slow = slow_read(plan, period, lines)
        if isinstance(slow, list):
            refusal = refused(read_board, plan, period, lines)
            self.assertIs(type(refusal), NoText, lines)
            self.assertIsInstance(refusal, PlanError)
            self.assertEqual([refusal.row, refusal.word], slow, lines)
            self.assertEqual((type(refusal.row), type(refusal.word)), (int, int))
        else:
            beats = read_board(plan, period, lines)
            self.assertEqual(beats, slow)
            self.assertIs(are_beats(plan, period, beats), True)
        self.assertEqual(repr((plan, lines)), shown)
        return slow

    def test_written_by_hand(self):
        for plan, period, beats, lines in (
            (PLAN, 4, (2, 0, 2), BOARD), (PLAN, 1, (0, 0, 0), ["0 a bb c"]), (PLAN, 2, (1, 1, 1), ["0 -", "1 a bb c"]),
            (PLAN, 3, (2, 1, 0), ["0 c", "1 bb", "2 a"]), ((("a",), ()), 1, (0,), ["0 a"]),
        ):
            told = board_of(plan, period, beats)
            self.assertIs(type(told), list)
            self.assertEqual(told, lines)
            self.assertEqual(self.read(plan, period, lines), beats)

    def test_what_is_written_is_read_again(self):
        rng = seeded("boards")
        for period in list(range(1, 40)) + [60, 99, 100, 101, 599, 600]:
            for _ in range(4):
                plan = some_plan(rng, rng.randint(1, 8), rng.randint(0, 3), 99)
                beats = some_beats(rng, plan, period)
                shown = repr((plan, beats))
                lines = board_of(plan, period, beats)
                self.assertEqual(repr((plan, beats)), shown)
                self.assertEqual(len(lines), period)
                for beat, line in enumerate(lines):
                    names = [name for work, name in enumerate(plan[0]) if beats[work] == beat]
                    self.assertEqual(line, f"{beat} {' '.join(names) or '-'}")
                    self.assertIs(type(line), str)
                self.assertEqual(self.read(plan, period, lines), beats)

    def test_lines_more_fewer_exchanged(self):
        for lines, fault in (
            ([], [0, 0]), (BOARD[:1], [1, 0]), (BOARD[:3], [3, 0]), (BOARD + ["4 -"], [4, 0]), (BOARD + [""], [4, 0]), (BOARD + ["3 -"], [4, 0]),
            (BOARD + ["4 -", "5 -"], [4, 0]), (BOARD[1:], [0, 0]), (BOARD[:1] + BOARD[2:], [1, 0]), (BOARD[:2] + BOARD[1:], [2, 0]),
            (BOARD[:1] * 2 + BOARD[1:], [1, 0]), (BOARD[::-1], [0, 0]), ([""] + BOARD, [0, 0]), (BOARD[:2] + [""] + BOARD[2:], [2, 0]),
        ):
            self.assertEqual(self.read(PLAN, 4, lines), fault, lines)

    def test_words(self):
        for row, line, at in (
            (0, "0", 1), (0, "0 ", 1), (0, " 0 bb", 0), (0, "0  bb", 1), (0, "0 bb ", 2), (0, "0 b", 1), (0, "00 bb", 0), (0, "1 bb", 0),
            (0, "bb", 0), (0, "bb 0", 0), (0, "0 bb bb", 2), (0, "0 bb -", 2), (0, "0 - bb", 2), (0, "0 -  bb", 2), (0, "0 - -", 2), (0, "0 -bb", 1),
            (1, "1", 1), (1, "1 - ", 2), (1, "1 --", 1), (1, "01 -", 0), (1, "+1 -", 0), (1, "1 bb", 1), (1, "1 x", 1), (1, "-1 -", 0), (1, "1- ", 0),
            (2, "2 c a", 2), (2, "2 a a c", 2), (2, "2 a c c", 3), (2, "2 a bb c", 2), (2, "2 bb", 1), (2, "2 a - c", 2), (2, "2 a c -", 3),
            (2, "2 a c d", 3), (2, "2 a  c", 2), (2, "2 A c", 1), (2, "2 2 a c", 1), (3, "3 a", 1), (3, "3 - - -", 2), (3, "3 c -", 1), (3, "3 x y", 1),
        ):
            self.assertEqual(self.read(PLAN, 4, BOARD[:row] + [line] + BOARD[row + 1:]), [row, at], line)
            self.assertEqual(self.read(PLAN, 4, BOARD[:row] + [line, "x"]), [row, at], line)

    def test_names_that_lack(self):
        self.assertEqual(self.read(PLAN, 4, ["0 bb", "1 -", "2 a", "3 -"]), [4, 0])
        self.assertEqual(self.read(PLAN, 4, ["0 -", "1 -", "2 -", "3 -"]), [4, 0])
        self.assertEqual(self.read(PLAN, 4, ["0 -", "1 -", "2 a c", "3 -"]), [4, 0])
        self.assertEqual(self.read(PLAN, 4, ["0 -", "1 -", "2 a c"]), [3, 0])
        self.assertEqual(self.read(PLAN, 4, ["0 -", "1 -", "2 a c", "3 -", "4 bb"]), [4, 0])
        self.assertEqual(self.read(PLAN, 5, ["0 -", "1 -", "2 a c", "3 -", "4 bb"]), (2, 4, 2))
        self.assertEqual(self.read(PLAN, 1, ["0 a c"]), [1, 0])
        self.assertEqual(self.read(PLAN, 1, ["0 -"]), [1, 0])

    def test_other_rounds(self):
        for period in range(1, 9):
            told = self.read(PLAN, period, BOARD)
            self.assertEqual(told, (2, 0, 2) if period == 4 else [min(4, period), 0])

    def changes_of(self, rng, plan, lines):
        """The lines with something changed, mostly where names stand."""
        row = rng.choice([row for row, line in enumerate(lines) if row < 3 or not line.endswith("-")])
        words = lines[row].split(" ")
        word = rng.choice(("", "-", "x", "0", str(row), str(row + 1)) + plan[0])
        yield from changed_lines(rng, lines, row, word)
        for new in (words + ["-"], words[:1] + ["-"] + words[1:], words[:1] + words[:0:-1]):
            yield lines[:row] + [" ".join(new)] + lines[row + 1:]
        yield lines[:-1]
        yield lines + [f"{len(lines)} -"]
        yield lines + [f"{len(lines)} {word}"]

    def test_any_changes(self):
        rng = seeded("changed boards")
        seen = {"beats": 0, "first": 0, "word": 0, "behind": 0}
        for _ in range(400):
            period = rng.choice((1, 2, 3, 5, 12, 60))
            plan = some_plan(rng, rng.randint(1, 8), 0, 9)
            beats = tuple([rng.randrange(rng.choice((1, period))) for _ in plan[0]])
            for lines in self.changes_of(rng, plan, board_of(plan, period, beats)):
                answer = self.read(plan, period, lines)
                key = "beats" if isinstance(answer, tuple) else "word" if answer[1] else "behind" if answer[0] == len(lines) else "first"
                seen[key] += 1
        self.assertGreater(min(seen.values()), 300)

    def test_what_is_told_is_the_askers_own(self):
        lines = board_of(PLAN, 4, (2, 0, 2))
        lines[0] = "x"
        lines.clear()
        self.assertEqual(board_of(PLAN, 4, (2, 0, 2)), BOARD)


if __name__ == "__main__":
    unittest.main()
