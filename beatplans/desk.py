"""A desk: it is told rows of words, holds a plan, a round and beats, and answers each row with a text."""

from beatplans.boards import board_of
from beatplans.errors import NoRow
from beatplans.finding import times_or_none
from beatplans.late import lateness_of
from beatplans.lines import number_in, plan_lines, span_fault, span_in, words_of, works_fault
from beatplans.mending import mended
from beatplans.movechecker import differing
from beatplans.plans import MOST_ROUND, MOST_SPANS, MOST_WEIGHT, is_within, unkept
from beatplans.rounds import least_round
from beatplans.waiting import least_waits

FIRST_ROUND = 60
MOST_LEAST = 60
MOST_LATE = 999
MOST_TURNS = 12


def number_within(word, least, most):
    """The number from least to most that this word writes, None where it writes none."""
    number = number_in(word)
    return number if is_within(number, least, most) else None


def one_number(words, least, most):
    """The number of a row of two words, from least to most, None where there is no such."""
    return number_within(words[1], least, most) if len(words) == 2 else None


def numbers_within(words, many, most):
    """The tuple of so many numbers up to the most that these words write, None where they write none."""
    numbers = tuple([number_within(word, 0, most) for word in words])
    return numbers if len(numbers) == many and None not in numbers else None


def written(numbers):
    """The numbers by figures, side by side."""
    return " ".join([str(number) for number in numbers])


def change_spans(desk, spans):
    """The desk has these spans from now on; the ones that it had can be had again."""
    desk.earlier.append(desk.plan[1])
    desk.plan = (desk.plan[0], spans)


def tell_works(desk, words):
    """The answer to a row that begins with works; like all that follow: None where it is no row."""
    if works_fault(words) is not None:
        return None
    desk.plan = (tuple(words[1:]), ())
    desk.earlier = []
    desk.beats = None
    return "ok"


def tell_span(desk, words):
    """The answer to span and apart."""
    names, spans = desk.plan
    if len(spans) == MOST_SPANS or span_fault(names, words) is not None:
        return None
    change_spans(desk, spans + (span_in(names, words),))
    return str(len(spans))


def tell_drop(desk, words):
    """The answer to drop."""
    spans = desk.plan[1]
    s = one_number(words, 0, len(spans) - 1)
    if s is None:
        return None
    change_spans(desk, spans[:s] + spans[s + 1:])
    return "ok"


def tell_undo(desk, words):
    """The answer to undo."""
    if not desk.earlier:
        return None
    desk.plan = (desk.plan[0], desk.earlier.pop())
    return "ok"


def tell_round(desk, words):
    """The answer to round."""
    period = one_number(words, 1, MOST_ROUND)
    if period is None:
        return None
    if period != desk.period:
        desk.beats = None
    desk.period = period
    return "ok"


def tell_hold(desk, words):
    """The answer to hold."""
    beats = numbers_within(words[1:], len(desk.plan[0]), desk.period - 1)
    if beats is None:
        return None
    desk.beats = beats
    s = unkept(desk.plan, desk.period, beats)
    return "kept" if s is None else f"lacks {s}"


def tell_held(desk, words):
    """The answer to held."""
    return "-" if desk.beats is None else written(desk.beats)


def tell_find(desk, words):
    """The answer to find."""
    word, found = times_or_none(desk.plan, desk.period)
    if word == "none":
        return "none"
    desk.beats = found
    return written(found)


def tell_mend(desk, words):
    """The answer to mend."""
    answer = mended(desk.plan, desk.period, desk.beats)
    if answer[0] == "none":
        return "none"
    times = answer[1]
    moved = differing(desk.beats, times)
    desk.beats = times
    return written((moved,) + times)


def tell_waits(desk, words):
    """The answer to waits."""
    weights = numbers_within(words[1:], len(desk.plan[1]), MOST_WEIGHT)
    if weights is None:
        return None
    answer = least_waits(desk.plan, desk.period, weights)
    return "none" if answer[0] == "none" else str(answer[1])


def tell_least(desk, words):
    """The answer to least."""
    most = one_number(words, 1, MOST_LEAST)
    if most is None:
        return None
    shown = least_round(desk.plan, most)
    return "none" if shown is None else str(shown[0])


def tell_plan(desk, words):
    """The answer to plan."""
    return "; ".join(plan_lines(desk.plan))


def tell_board(desk, words):
    """The answer to board."""
    return "; ".join(board_of(desk.plan, desk.period, desk.beats))


def tell_late(desk, words):
    """The answer to late."""
    names, spans = desk.plan
    if len(words) != 4 or words[1] not in names:
        return None
    late = number_within(words[2], 0, MOST_LATE)
    many = number_within(words[3], 1, MOST_TURNS)
    if late is None or many is None:
        return None
    waiting = tuple(range(len(spans)))
    table = lateness_of(desk.plan, desk.period, desk.beats, waiting, ((names.index(words[1]), 0, late),), many)
    return written([number for row in table for number in row])


DEEDS = {
    "works": tell_works, "span": tell_span, "apart": tell_span, "drop": tell_drop, "undo": tell_undo,
    "round": tell_round, "hold": tell_hold, "held": tell_held, "find": tell_find, "mend": tell_mend,
    "waits": tell_waits, "least": tell_least, "plan": tell_plan, "board": tell_board, "late": tell_late,
}
AHEAD_OF_WORKS = ("works", "round")
OF_ONE_WORD = ("undo", "held", "find", "mend", "plan", "board")
OF_BEATS_HELD = ("mend", "board", "late")


def can_be_asked(desk, words):
    """Whether a row of these words may be one, as the desk stands; the words behind the first are its deed's affair."""
    word = words[0]
    if word not in DEEDS or (desk.plan is None and word not in AHEAD_OF_WORKS):
        return False
    if word in OF_ONE_WORD and len(words) > 1:
        return False
    return word not in OF_BEATS_HELD or desk.beats is not None


class Desk:
    """A desk with a plan (None ahead of works), a round, beats held or None, and the spans that undo brings back."""

    def __init__(self):
        self.plan = None
        self.period = FIRST_ROUND
        self.beats = None
        self.earlier = []

    def say(self, row):
        """The answer to this row, or NoRow, or TooMany."""
        words = words_of(row)
        answer = None
        if can_be_asked(self, words):
            deed = DEEDS[words[0]]
            answer = deed(self, words)
        if answer is None:
            raise NoRow(row)
        return answer
