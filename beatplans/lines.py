"""Plans written as lines of words, and read again."""

from beatplans.errors import NoText
from beatplans.plans import MOST_NAMES, MOST_SPANS, is_name

MOST_FIGURES = 4
FIGURES = "0123456789"


def words_of(line):
    """The words of a line: what stands between single blanks, perhaps without signs."""
    return line.split(" ")


def number_in(word):
    """The number that this word writes, None where it writes none."""
    if not 1 <= len(word) <= MOST_FIGURES or not all([sign in FIGURES for sign in word]):
        return None
    return None if len(word) > 1 and word[0] == "0" else int(word)


def first_fault(words, least, fits):
    """The place of the first word that doesn't fit, how many there are where one lacks of the least, else None.

    fits(at) tells whether the word at this place can stand there, where all those ahead of it can.
    """
    for at in range(len(words)):
        if not fits(at):
            return at
    return len(words) if len(words) < least else None


def works_fault(words):
    """Where these words are no line of works, None where they are one."""
    def fits(at):
        if at == 0:
            return words[at] == "works"
        return at <= MOST_NAMES and is_name(words[at]) and words[at] not in words[1:at]

    return first_fault(words, 2, fits)


def span_fault(names, words):
    """Where these words are no line of a span of works with these names, None where they are one."""
    def fits(at):
        if at == 0:
            return words[at] in ("span", "apart")
        if at < 3:
            return words[at] in names
        if at > 4 or number_in(words[at]) is None:
            return False
        return at == 3 or words[0] == "apart" or number_in(words[3]) <= number_in(words[4])

    return first_fault(words, 5, fits)


def span_in(names, words):
    """The span that these words write."""
    word, one, other, low, high = words
    return (word, names.index(one), names.index(other), number_in(low), number_in(high))


def plan_lines(plan):
    """The list of lines that write this plan."""
    names, spans = plan
    lines = [" ".join(("works",) + names)]
    for word, one, other, low, high in spans:
        lines.append(f"{word} {names[one]} {names[other]} {low} {high}")
    return lines


def read_plan(lines):
    """The plan that these lines write, or NoText."""
    if not lines:
        raise NoText(0, 0)
    first = words_of(lines[0])
    at = works_fault(first)
    if at is not None:
        raise NoText(0, at)
    names = tuple(first[1:])
    spans = []
    for row in range(1, len(lines)):
        words = words_of(lines[row])
        at = span_fault(names, words) if row <= MOST_SPANS else 0
        if at is not None:
            raise NoText(row, at)
        spans.append(span_in(names, words))
    return (names, tuple(spans))
