"""Boards: beats written as a line for each beat of the round, and read again."""

from beatplans.errors import NoText
from beatplans.lines import first_fault, words_of

NO_NAME = "-"


def board_line(plan, beats, beat):
    """The line of this beat: the works that begin there, in their order."""
    names = [name for work, name in enumerate(plan[0]) if beats[work] == beat]
    return " ".join([str(beat)] + (names or [NO_NAME]))


def board_of(plan, period, beats):
    """The list of the lines of all beats of the round."""
    return [board_line(plan, beats, beat) for beat in range(period)]


def line_fault(names, told, beat, words):
    """Where these words are no line of this beat, these names being told ahead; None where they are one."""
    def fits(at):
        word = words[at]
        if at == 0:
            return word == str(beat)
        if at == 1 and word == NO_NAME:
            return True
        if words[1] == NO_NAME or word not in names or word in told:
            return False
        return at == 1 or names.index(words[at - 1]) < names.index(word)

    return first_fault(words, 2, fits)


def read_board(plan, period, lines):
    """The beats that these lines write, or NoText."""
    names = plan[0]
    told = {}
    for row, line in enumerate(lines):
        words = words_of(line)
        at = line_fault(names, told, row, words) if row < period else 0
        if at is not None:
            raise NoText(row, at)
        for name in words[1:]:
            if name != NO_NAME:
                told[name] = row
    if len(lines) < period or len(told) < len(names):
        raise NoText(len(lines), 0)
    return tuple([told[name] for name in names])
