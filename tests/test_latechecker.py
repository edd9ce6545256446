"""[31], [5] Papers of lateness, and the checker of them: what is let by, and the first thing that isn't as told."""

import unittest

from beatplans.errors import NoPaper, PlanError
from beatplans.latechecker import lets_late
from beatplans.latepapers import late_paper
from tests.helpers import (
    FORTY, NAMES, late_numbers, nested, paths_of, plain_things, put, refused, seeded, slow_buffer, slow_is_chain,
    slow_is_whole, slow_late_bounds, slow_lateness, slow_step, some_late, with_lists, with_truths,
)

# a at 0, b at 20, c at 50 by 60: from a to b 5 beats to spare, from b to c none, from c to the next a 4.
ROUND = (("a", "b", "c"), (("span", 0, 1, 15, 25), ("span", 1, 2, 30, 40), ("span", 2, 0, 6, 12)))
GIVEN = ((0, 0, 12), (1, 0, 3))
ASKED = (ROUND, 60, (0, 20, 50), (0, 1, 2), GIVEN, 2)
SHOWN = (((12, 7, 7), (3, 0, 0)), ((0, ()), (0, (0,)), (0, (0, 1)), (0, (0, 1, 2))))

# One work that waits for itself at the same turn, with nothing to spare: it may be gone around by any row.
ITSELF = (("a",), (("span", 0, 0, 0, 9), ("span", 0, 0, 0, 9), ("span", 0, 0, 60, 60)))


def slow_late_fault(plan, period, beats, waiting, given, many, thing):
    """The word and the number that are told, None where the thing is let by."""
    if type(thing) is not tuple or len(thing) != 2:
        return ("shape", 0)
    table, chains = thing
    if type(table) is not tuple or len(table) != many or type(chains) is not tuple:
        return ("shape", 0)
    for row in table:
        if type(row) is not tuple or len(row) != len(plan[0]):
            return ("shape", 0)
        if not all(slow_is_whole(number) and number >= 0 for number in row):
            return ("shape", 0)
    numbers = late_numbers(table)
    if len(chains) != len(numbers):
        return ("shape", 0)
    for k, (work, turn, late) in enumerate(given):
        if table[turn][work] < late:
            return ("given", k)
    for s in waiting:
        for turn, one, later, other, buffer in slow_late_bounds(plan, period, beats, (s,), many):
            if table[later][other] < table[turn][one] - buffer:
                return ("span", s)
    for k, number in enumerate(numbers):
        if not slow_is_chain(plan, period, beats, waiting, given, number, chains[k]):
            return ("chain", k)
    return None


class LateTestCase(unittest.TestCase):

    def let_by(self, asked, thing):
        shown = repr((asked, thing))
        self.assertIs(lets_late(*asked, thing), True)
        self.assertEqual(repr((asked, thing)), shown)
        # Whoever wrote it: the table is the lateness.
        self.assertEqual(thing[0], slow_lateness(*asked))

    def not_let(self, word, at, asked, thing):
        shown = repr((asked, thing))
        refusal = refused(lets_late, *asked, thing)
        self.assertIs(type(refusal), NoPaper)
        self.assertIsInstance(refusal, PlanError)
        self.assertEqual((refusal.word, refusal.at), (word, at))
        self.assertIs(type(refusal.at), int)
        self.assertEqual(repr((asked, thing)), shown)

    def same_as_slow(self, asked, thing):
        """The fault that is told, which is the one that the document tells."""
        fault = slow_late_fault(*asked, thing)
        if fault is None:
            self.let_by(asked, thing)
        else:
            self.not_let(fault[0], fault[1], asked, thing)
        return fault


class Papers(LateTestCase):

    def told(self, asked):
        """The paper that is told, which is right by the test's own going along."""
        shown = repr(asked)
        paper = late_paper(*asked)
        self.assertEqual(repr(asked), shown)
        self.assertIs(type(paper), tuple)
        self.assertEqual(len(paper), 2)
        table, chains = paper
        self.assertEqual(table, slow_lateness(*asked))
        self.assertIs(type(chains), tuple)
        numbers = late_numbers(table)
        self.assertEqual(len(chains), len(numbers))
        plan, period, beats, waiting, given, many = asked
        for number, chain in zip(numbers, chains):
            self.assertTrue(slow_is_chain(plan, period, beats, waiting, given, number, chain))
            self.assertLessEqual(len(chain[1]), 100)
        self.assertIsNone(self.same_as_slow(asked, paper))
        return paper

    def test_told_by_hand(self):
        self.assertEqual(self.told(ASKED), SHOWN)
        plan, period, beats, waiting, given, many = ASKED
        self.assertEqual(self.told((plan, period, beats, (), (), 3)), (((0, 0, 0),) * 3, ()))
        self.assertEqual(self.told((plan, period, beats, waiting, ((1, 0, 0),), 1)), (((0, 0, 0),), ()))
        self.assertEqual(self.told((plan, period, beats, (), ((1, 0, 1),), 1)), (((0, 1, 0),), ((0, ()),)))
        table, chains = self.told((plan, period, beats, waiting, ((1, 0, 1), (0, 0, 7)), 1))
        self.assertEqual((table, chains), (((7, 2, 2),), ((1, ()), (1, (0,)), (1, (0, 1)))))

    def test_the_longest_rows(self):
        # Each waits for the one ahead at the same turn, the first for the last at the turn ahead, all without buffer.
        spans = tuple([("span", work, (work + 1) % 8, int(work == 7), 9) for work in range(8)])
        asked = ((NAMES, spans), 1, (0,) * 8, tuple(range(8)), ((0, 0, 999),), 12)
        table, chains = self.told(asked)
        self.assertEqual(table, ((999,) * 8,) * 12)
        self.assertEqual([len(row) for g, row in chains], list(range(96)))
        # With spans back within each turn, too.
        back = spans + tuple([("span", work + 1, work, 0, 9) for work in range(7)]) + (("span", 7, 3, 0, 9),) * 9
        for order in (back, back[::-1]):
            for given in (((0, 0, 999),), ((7, 0, 5), (3, 1, 9)), tuple([(work % 8, work, work) for work in range(12)])):
                self.told(((NAMES, order), 1, (0,) * 8, tuple(range(24)), given, 12))

    def test_any_plans(self):
        rng = seeded("papers of lateness")
        rows = {}
        for _ in range(800):
            table, chains = self.told(some_late(rng))
            for g, row in chains:
                rows[len(row)] = rows.get(len(row), 0) + 1
        for many in (0, 1, 2, 3, 5, 10):
            self.assertGreater(rows.get(many, 0), 10, many)

    def test_asked_again(self):
        rng = seeded("papers again")
        asked = [some_late(rng) for _ in range(30)]
        tables = [self.told(one)[0] for one in asked]
        self.assertEqual([self.told(one)[0] for one in asked[::-1]], tables[::-1])


class LateChecker(LateTestCase):

    def test_right_ones(self):
        self.let_by(ASKED, SHOWN)
        plan, period, beats, waiting, given, many = ASKED
        self.let_by((plan, period, beats, (), (), 1), (((0, 0, 0),), ()))
        self.let_by((plan, period, beats, waiting, (), 12), (((0, 0, 0),) * 12, ()))
        self.let_by((plan, period, beats, waiting, ((0, 0, 5),) * 12, 1), (((5, 0, 0),), ((11, ()),)))
        # Of several ways to one number any is right.
        twice = (("a", "b"), (("span", 0, 1, 10, 99), ("span", 0, 1, 10, 99)))
        for g in (0, 1):
            for s in (0, 1):
                paper = (((8, 6),), ((g, ()), (g, (s,))))
                self.let_by((twice, 60, (0, 12), (0, 1), ((0, 0, 8), (0, 0, 8)), 1), paper)

    def test_plain_things_for_the_paper(self):
        for thing in plain_things() + [SHOWN[0], SHOWN[1], SHOWN + ((),), SHOWN[:1], (SHOWN,), list(SHOWN), dict([SHOWN])]:
            self.not_let("shape", 0, ASKED, thing)
        for thing in plain_things():
            self.not_let("shape", 0, ASKED, (thing, SHOWN[1]))
            self.not_let("shape", 0, ASKED, (SHOWN[0], thing))
            for path in ((0, 0), (0, 1), (0, 0, 1)):
                if not (len(path) == 3 and slow_is_whole(thing) and thing >= 0):
                    self.not_let("shape", 0, ASKED, put(SHOWN, path, thing))
            for k in range(4):
                self.not_let("chain", k, ASKED, put(SHOWN, (1, k), thing))
                self.not_let("chain", k, ASKED, put(SHOWN, (1, k, 0), thing))
                self.not_let("chain", k, ASKED, put(SHOWN, (1, k, 1), thing))
            self.not_let("chain", 3, ASKED, put(SHOWN, (1, 3, 1, 1), thing))

    def test_everything_changed(self):
        news = plain_things() + [0, 1, 2, 3, 7, 12, (), (0,), (0, 1), (1, ()), (0, (0,)), nested(140, "tuple")]
        for path in paths_of(SHOWN):
            for new in news:
                self.same_as_slow(ASKED, put(SHOWN, path, new))

    def test_lists_and_truths(self):
        for thing in list(with_lists(SHOWN)) + list(with_truths(SHOWN)):
            self.assertIsNotNone(self.same_as_slow(ASKED, thing))
        # Truths that equal the right numbers.
        asked = (ROUND, 60, (0, 20, 50), (0, 1, 2), ((1, 0, 1),), 1)
        right = (((0, 1, 1),), ((0, ()), (0, (1,))))
        self.let_by(asked, right)
        self.not_let("shape", 0, asked, (((False, 1, 1),), right[1]))
        self.not_let("shape", 0, asked, (((0, True, 1),), right[1]))
        self.not_let("chain", 0, asked, (right[0], ((False, ()), (0, (1,)))))
        self.not_let("chain", 1, asked, (right[0], ((0, ()), (0, (True,)))))

    def test_numbers_below_nothing(self):
        for number in (-1, -FORTY):
            for turn in (0, 1):
                for work in (0, 1, 2):
                    self.not_let("shape", 0, ASKED, put(SHOWN, (0, turn, work), number))
        self.not_let("chain", 0, ASKED, put(SHOWN, (1, 0, 0), -1))
        self.not_let("chain", 0, ASKED, put(SHOWN, (1, 0, 0), -2))
        self.not_let("chain", 1, ASKED, put(SHOWN, (1, 1, 1), (-3,)))

    def test_a_number_more_and_less(self):
        # Less: the given one, then what waits for it is less than it has to be. More: the chain shows less.
        for turn, work, word, at in ((0, 0, "given", 0), (0, 1, "span", 0), (0, 2, "span", 1), (1, 0, "span", 2)):
            number = SHOWN[0][turn][work]
            self.not_let(word, at, ASKED, put(SHOWN, (0, turn, work), number - 1))
        for turn, work, word, at in ((0, 0, "span", 0), (0, 1, "span", 1), (0, 2, "span", 2), (1, 0, "chain", 3)):
            number = SHOWN[0][turn][work]
            self.not_let(word, at, ASKED, put(SHOWN, (0, turn, work), number + 1))
        self.not_let("span", 0, ASKED, put(SHOWN, (0, 0, 0), FORTY))
        self.not_let("shape", 0, ASKED, put(SHOWN, (0, 1, 1), 1))
        self.not_let("shape", 0, ASKED, put(SHOWN, (0, 0, 1), 0))
        grown = (((12, 7, 7), (3, 1, 0)), SHOWN[1] + ((0, (0, 1, 2, 0)),))
        self.not_let("span", 1, ASKED, grown)
        grown = (((12, 7, 7), (3, 1, 1)), SHOWN[1] + ((0, (0, 1, 2, 0)), (0, (0, 1, 2, 0, 1))))
        self.not_let("chain", 4, ASKED, grown)

    def test_rows_and_chains_more_fewer_exchanged(self):
        table, chains = SHOWN
        for other in (table + ((0, 0, 0),), table[:1], table[1:], (), ((12, 7, 7), (3, 0)), ((12, 7, 7), (3, 0, 0, 0))):
            self.not_let("shape", 0, ASKED, (other, chains))
        for other in (chains + ((0, ()),), chains[:-1], chains[1:], (), chains + (None,)):
            self.not_let("shape", 0, ASKED, (table, other))
        for one in range(4):
            for two in range(one + 1, 4):
                other = list(chains)
                other[one], other[two] = other[two], other[one]
                self.not_let("chain", one, ASKED, (table, tuple(other)))
        self.not_let("given", 0, ASKED, (table[::-1], chains))

    def test_what_is_given(self):
        plan, period, beats, waiting, given, many = ASKED
        for late, fault in ((7, None), (8, ("given", 1)), (999, ("given", 1))):
            asked = (plan, period, beats, waiting, ((0, 0, 12), (1, 0, late)), many)
            self.assertEqual(self.same_as_slow(asked, SHOWN), fault)
        asked = (plan, period, beats, waiting, ((0, 0, 13), (1, 0, 8), (0, 1, 4)), many)
        self.not_let("given", 0, asked, SHOWN)
        asked = (plan, period, beats, waiting, ((0, 0, 12), (1, 0, 7), (0, 1, 4)), many)
        self.not_let("given", 2, asked, SHOWN)
        asked = (plan, period, beats, waiting, ((0, 0, 12), (2, 1, 0)), many)
        self.let_by(asked, SHOWN)
        self.not_let("given", 11, (plan, period, beats, (), ((0, 0, 5),) * 11 + ((0, 0, 6),), 1), (((5, 0, 0),), ((0, ()),)))

    def test_spans_beyond_the_turns_are_not_looked_at(self):
        plan, period, beats, waiting, given, many = ASKED
        self.let_by((plan, period, beats, waiting, ((2, 1, 99),), 2), (((0, 0, 0), (0, 0, 99)), ((0, ()),)))
        far = (("a", "b"), (("span", 0, 1, 120, 999),))
        for many in range(1, 6):
            paper = (((9, 0),) + ((0, 0),) * (many - 1), ((0, ()),))
            fault = self.same_as_slow((far, 60, (0, 0), (0,), ((0, 0, 9),), many), paper)
            self.assertEqual(fault, ("span", 0) if many > 2 else None)

    def test_spans_that_do_not_wait(self):
        plan, period, beats, waiting, given, many = ASKED
        self.not_let("chain", 1, (plan, period, beats, (1, 2), given, many), SHOWN)
        self.not_let("chain", 2, (plan, period, beats, (0, 2), given, many), SHOWN)
        self.not_let("chain", 3, (plan, period, beats, (0, 1), given, many), SHOWN)
        for s in (3, 24, FORTY, -1, None, "0", (0,), [0], True, False):
            self.not_let("chain", 1, ASKED, put(SHOWN, (1, 1, 1), (s,)))
            self.not_let("chain", 3, ASKED, put(SHOWN, (1, 3, 1, 2), s))

    def test_what_the_chains_begin_with(self):
        for g in (1, 2, 12, FORTY, -1, None, "0", (0,), [0], True, False):
            self.not_let("chain", 0, ASKED, put(SHOWN, (1, 0, 0), g))
            self.not_let("chain", 2, ASKED, put(SHOWN, (1, 2, 0), g))
        plan, period, beats, waiting, given, many = ASKED
        self.not_let("chain", 0, (plan, period, beats, (), (), many), SHOWN)

    def test_rows_that_lead_elsewhere(self):
        for k, row in (
            (0, (0,)), (0, (0, 1, 2)), (1, ()), (1, (1,)), (1, (2,)), (1, (0, 1)), (1, (0, 0)), (2, (0,)), (2, (1,)), (2, (1, 0)),
            (2, (0, 1, 2)), (2, (0, 1, 2, 0, 1)), (3, (0, 1)), (3, ()), (3, (0, 1, 2, 0, 1, 2)), (3, (2,)), (0, (0, 1, 2) * 2),
        ):
            self.not_let("chain", k, ASKED, put(SHOWN, (1, k, 1), row))
        # Rows that leave the turns: nothing is late there, and they come back to none.
        self.not_let("chain", 3, ASKED, put(SHOWN, (1, 3, 1), (0, 1, 2) * 30))
        # The right work and turn, with more of the buffers gone.
        more = (("a", "b"), (("span", 0, 1, 10, 99), ("span", 0, 1, 9, 99)))
        asked = (more, 60, (0, 12), (0, 1), ((0, 0, 8),), 1)
        self.let_by(asked, (((8, 6),), ((0, ()), (0, (0,)))))
        self.not_let("chain", 1, asked, (((8, 6),), ((0, ()), (0, (1,)))))

    def test_rows_of_a_hundred(self):
        asked = (ITSELF, 60, (5,), (0, 1), ((0, 1, 9),), 2)
        for many in (0, 1, 2, 50, 99, 100):
            for s in (0, 1):
                self.let_by(asked, (((0,), (9,)), ((0, (s,) * many),)))
        for many in (101, 102, 1000, 19999):
            self.not_let("chain", 0, asked, (((0,), (9,)), ((0, (0,) * many),)))
        self.not_let("chain", 0, asked, (((0,), (9,)), ((0, (0,) * 99 + (2,)),)))

    def test_two_faults_at_once(self):
        table, chains = SHOWN
        for word, at, thing in (
            ("shape", 0, (((1, 7, 7), (3, 0, True)), chains)), ("shape", 0, (((1, 7, 7), (3, 0, 0)), chains[:3])),
            ("given", 0, (((11, 5, 7), (3, 0, 0)), (None,) * 4)), ("given", 0, (((1, 1, 7), (3, 0, 0)), chains)),
            ("given", 1, (((12, 1, 7), (3, 0, 0)), chains)), ("span", 0, (((12, 6, 1), (3, 0, 0)), (None,) * 4)),
            ("span", 1, (((12, 7, 6), (1, 0, 0)), chains[::-1])), ("chain", 0, (table, (None,) * 4)),
            ("chain", 1, (table, (chains[0], None, chains[2], None))), ("chain", 1, (((12, 8, 8), (4, 0, 0)), chains)),
            ("shape", 0, (((0, 0, 0), (0, 0, 0)), (None,))), ("given", 0, (((0, 0, 0), (0, 0, 0)), ())),
        ):
            self.not_let(word, at, ASKED, thing)

    def test_any_papers(self):
        rng = seeded("any papers")
        seen = {}
        for _ in range(5000):
            asked = some_late(rng)
            table, chains = some_paper(rng, asked)
            for thing in ((table, chains), changed_paper(rng, asked, table, chains)):
                fault = self.same_as_slow(asked, thing)
                word = fault[0] if fault else "right" if thing[1] else "empty"
                seen[word] = seen.get(word, 0) + 1
        for word in ("right", "empty", "shape", "given", "span", "chain"):
            self.assertGreater(seen.get(word, 0), 100, word)

    def test_asked_again(self):
        for _ in range(3):
            self.let_by(ASKED, SHOWN)
            self.not_let("chain", 0, ASKED, (SHOWN[0], SHOWN[1][::-1]))
            self.not_let("shape", 0, ASKED, None)


def some_paper(rng, asked):
    """A right paper, its chains found by walks at random ahead of those that are told."""
    plan, period, beats, waiting, given, many = asked
    table = slow_lateness(*asked)
    ways = {}
    for _ in range(60 if given else 0):
        g = rng.randrange(len(given))
        work, turn, late = given[g]
        row = ()
        while turn < many and late > 0:
            if table[turn][work] == late:
                ways.setdefault((turn, work), []).append((g, row))
            spans = [s for s in waiting if plan[1][s][1] == work]
            if not spans or len(row) == 20:
                break
            s = rng.choice(spans)
            work, turn = plan[1][s][2], turn + slow_step(plan[1][s], period, beats)
            late -= slow_buffer(plan[1][s], period, beats)
            row += (s,)
    told = late_paper(*asked)[1]
    chains = [rng.choice(ways.get(place[:2], [chain])) for place, chain in zip(late_numbers(table), told)]
    return (table, tuple(chains))


def changed_paper(rng, asked, table, chains):
    """The paper with something changed, perhaps to a right one."""
    plan, period, beats, waiting, given, many = asked
    turn, work = rng.randrange(many), rng.randrange(len(plan[0]))
    if given and rng.random() < 0.7:
        work, turn, _ = rng.choice(given)
    number = table[turn][work]
    kind = rng.randrange(6)
    if kind == 0 or not chains:
        return (put(table, (turn, work), rng.choice((number + 1, number - 1, 0, 5))), chains)
    k = rng.randrange(len(chains))
    g, row = chains[k]
    if kind == 1:
        # All that is late is later by one, as the chains would have it that began with more.
        return (tuple([tuple([n + (n > 0) for n in line]) for line in table]), chains)
    if kind == 2:
        row = rng.choice((row[:-1], row[1:], row + row[-1:], row + waiting[:1], waiting[-1:], row[::-1]))
        return (table, put(chains, (k,), (g, row)))
    if kind == 3:
        return (table, put(chains, (k,), (rng.randint(-1, len(given)), row)))
    if kind == 4:
        return (table, put(chains, (k,), rng.choice(chains)))
    return (put(table, (turn, work), rng.randint(0, 999)), rng.choice((chains, chains[:-1], chains + chains[:1])))


if __name__ == "__main__":
    unittest.main()
