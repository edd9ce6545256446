"""[35] Plans written as lines, and lines read as the plan that they write, or refused where they can't stand."""

import re
import unittest

from beatplans.errors import NoText, PlanError
from beatplans.lines import plan_lines, read_plan
from beatplans.plans import is_plan
from tests.helpers import NAMES, changed_lines, refused, seeded, some_plan, tracks

NUMBER = re.compile("0|[1-9][0-9]{0,3}")
NAME = re.compile("[a-z]{1,8}")
WORDS = ("", "a", "bb", "0", "00", "7", "10000", "9999", "span", "apart", "works", "zzzzzzzz", "aaaaaaaaa", "-", "-1")
SMALL = ["works a bb", "span a bb 3 15", "apart bb a 0 7"]


def slow_read(lines):
    """The plan that lines write, or the pair (row, word) where they can't stand."""
    if len(lines) == 0:
        return (0, 0)
    names = []
    spans = []
    for row, line in enumerate(lines):
        words = re.split(" ", line)
        told = []
        for at, word in enumerate(words):
            if row == 0:
                right = word == "works" if at == 0 else (
                    NAME.fullmatch(word) is not None and word not in names and len(names) < 8
                )
                if right and at:
                    names.append(word)
            elif at == 0:
                right = word in ("span", "apart") and row < 25
            elif at in (1, 2):
                right = word in names
            else:
                right = at < 5 and NUMBER.fullmatch(word) is not None
                if right and at == 4 and words[0] == "span":
                    right = int(word) >= told[3]
            if not right:
                return (row, at)
            told.append(int(word) if at > 2 and row else names.index(word) if at and row else word)
        if len(words) < (5 if row else 2):
            return (row, len(words))
        if row:
            spans.append(tuple(told))
    return (tuple(names), tuple(spans))


def is_fault(answer):
    """Whether it is a row and a word rather than a plan."""
    return isinstance(answer[0], int)


class Lines(unittest.TestCase):

    def read(self, lines):
        """What comes of reading, which is what the document tells."""
        shown = repr(lines)
        slow = slow_read(lines)
        if is_fault(slow):
            refusal = refused(read_plan, lines)
            self.assertIs(type(refusal), NoText, lines)
            self.assertIsInstance(refusal, PlanError)
            self.assertEqual((refusal.row, refusal.word), slow, lines)
            self.assertEqual((type(refusal.row), type(refusal.word)), (int, int))
        else:
            plan = read_plan(lines)
            self.assertEqual(plan, slow, lines)
            self.assertIs(is_plan(plan), True)
            self.assertEqual(repr(plan), repr(slow))
        self.assertEqual(repr(lines), shown)
        return slow

    def test_written_by_hand(self):
        for plan, lines in (
            ((("a",), ()), ["works a"]), ((("a", "bb"), (("span", 0, 1, 3, 15), ("apart", 1, 0, 0, 7))), SMALL),
            ((("works", "span", "apart"), (("span", 1, 2, 0, 0),)), ["works works span apart", "span span apart 0 0"]),
            ((NAMES, (("apart", 7, 7, 9999, 0),)), ["works " + " ".join(NAMES), "apart hhhhhhhh hhhhhhhh 9999 0"]),
        ):
            told = plan_lines(plan)
            self.assertIs(type(told), list)
            self.assertEqual(told, lines)
            self.assertEqual(self.read(lines), plan)

    def test_what_is_written_is_read_again(self):
        rng = seeded("lines")
        for _ in range(400):
            plan = some_plan(rng, rng.randint(1, 8), rng.randint(0, 24), rng.choice((3, 99, 9999)))
            shown = repr(plan)
            lines = plan_lines(plan)
            self.assertEqual(repr(plan), shown)
            self.assertEqual(len(lines), 1 + len(plan[1]))
            for line in lines:
                self.assertIs(type(line), str)
                self.assertRegex(line, "^[a-z0-9]+( [a-z0-9]+)+$")
            self.assertEqual(self.read(lines), plan)

    def test_no_lines_and_empty_ones(self):
        self.assertEqual(self.read([]), (0, 0))
        self.assertEqual(self.read([""]), (0, 0))
        self.assertEqual(self.read(["", *SMALL]), (0, 0))
        for at in (1, 2, 3):
            self.assertEqual(self.read(SMALL[:at] + [""] + SMALL[at:]), (at, 0))
            self.assertEqual(self.read(SMALL[:at] + [" "] + SMALL[at:]), (at, 0))

    def test_works(self):
        for line, at in (
            ("works", 1), ("works ", 1), (" works a", 0), ("works  a", 1), ("works a ", 2), ("works a  b", 2), ("work a", 0),
            ("Works a", 0), ("worksa", 0), ("works a a", 2), ("works a b a", 3), ("works A", 1), ("works a1", 1), ("works a b-", 2),
            ("works aaaaaaaaa", 1), ("works a b c d e f g h i", 9), ("works a b c d e f g h a", 9), ("works a b c d e f g h ", 9),
            ("works a b c d e f g h i j", 9), ("works a b a d e f g h i", 3), ("span a a 1 2", 0), ("a", 0), ("works ~", 1), ("works 1", 1),
        ):
            self.assertEqual(self.read([line]), (0, at), line)
            self.assertEqual(self.read([line, "", "x"]), (0, at), line)
        self.assertEqual(self.read(["works a b c d e f g h"])[0], tuple("abcdefgh"))
        self.assertEqual(self.read(["works aaaaaaaa"])[0], ("aaaaaaaa",))

    def test_spans(self):
        for line, at in (
            ("span", 1), ("span a", 2), ("span a bb", 3), ("span a bb 3", 4), ("span a bb 3 15 ", 5), ("span a bb 3 15 4", 5),
            ("span c bb 3 15", 1), ("span a c 3 15", 2), ("span a bb x 15", 3), ("span a bb 3 x", 4), ("spam a bb 3 15", 0),
            ("span  a bb 3 15", 1), ("span a  bb 3 15", 2), (" span a bb 3 15", 0), ("works a bb", 0), ("span a bb 3  15", 4),
            ("span a bb 03 15", 3), ("span a bb 00 15", 3), ("span a bb 3 015", 4), ("span a bb 10000 10001", 3),
            ("span a bb 3 10000", 4), ("span a bb 3 99999", 4), ("span a bb +3 15", 3), ("span a bb -3 15", 3), ("span a bb 3 -0", 4),
            ("span a bb 3 2", 4), ("span a bb 1 0", 4), ("span a bb 9999 9998", 4), ("span a bb 3 15.", 4), ("span a bb 1_0 15", 3),
            ("span A bb 3 15", 1), ("span a b 3 15", 2), ("span bb a", 3), ("apart", 1), ("apart a bb 3", 4), ("apart a bb 3 x", 4),
            ("aparts a bb 3 4", 0), ("apart a bb 3 4 5", 5), ("apart a bb 10 00", 4), ("span 0 1 3 15", 1), ("span a bb 3 15 x y", 5),
        ):
            self.assertEqual(self.read(["works a bb", line]), (1, at), line)
            self.assertEqual(self.read(SMALL + [line, "x"]), (3, at), line)
        for line, span in (
            ("span a bb 3 3", ("span", 0, 1, 3, 3)), ("span bb bb 0 9999", ("span", 1, 1, 0, 9999)), ("apart a a 9999 0", ("apart", 0, 0, 9999, 0)),
            ("apart a bb 3 2", ("apart", 0, 1, 3, 2)), ("span a bb 0 0", ("span", 0, 1, 0, 0)), ("span a bb 9 10", ("span", 0, 1, 9, 10)),
        ):
            self.assertEqual(self.read(["works a bb", line]), (("a", "bb"), (span,)))

    def test_a_twenty_fifth_span(self):
        full = ["works a bb"] + ["span a bb 3 15"] * 24
        self.assertEqual(len(self.read(full)[1]), 24)
        for line in ("span a bb 3 15", "apart a bb 3 15", "", "span", "x", "span a bb 3 2"):
            self.assertEqual(self.read(full + [line]), (25, 0))
            self.assertEqual(self.read(full + [line, line]), (25, 0))
        self.assertEqual(self.read(full[:9] + ["span a"] + full[9:] + ["x"]), (9, 2))

    def test_the_first_line_and_the_first_word(self):
        self.assertEqual(self.read(["works a bb", "span c c 0 x", "x"]), (1, 1))
        self.assertEqual(self.read(["works a bb", "span a bb 5 4 4", "x"]), (1, 4))
        self.assertEqual(self.read(["works a a A", "x"]), (0, 2))
        self.assertEqual(self.read(["works a bb", "span a"] + ["x"] * 30), (1, 2))

    def test_any_changes(self):
        rng = seeded("changed lines")
        seen = {"plan": 0, "fault": 0, "lacks": 0}
        for _ in range(500):
            plan = some_plan(rng, rng.randint(1, 8), rng.choice((0, 1, 2, 5, 24)), rng.choice((3, 99, 9999)))
            right = plan_lines(plan)
            for lines in changed_lines(rng, right, rng.randrange(len(right)), rng.choice(WORDS)):
                answer = self.read(lines)
                if not is_fault(answer):
                    seen["plan"] += 1
                    continue
                row, at = answer
                seen["lacks" if row < len(lines) and at == len(lines[row].split(" ")) else "fault"] += 1
        self.assertGreater(min(seen.values()), 100)

    def test_what_is_told_is_the_askers_own(self):
        plan = tracks(3, 2)
        lines = plan_lines(plan)
        lines.append("x")
        lines[0] = "works"
        self.assertEqual(self.read(plan_lines(plan)), plan)
        lines = plan_lines(plan)
        first = read_plan(lines)
        lines.clear()
        self.assertEqual(first, plan)


if __name__ == "__main__":
    unittest.main()
