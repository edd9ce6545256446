"""The checker of papers of lateness: it looks at what is said to show the lateness, and seeks nothing."""

from beatplans.errors import NoPaper
from beatplans.late import buffer_of, step_of
from beatplans.plans import is_whole, is_within

MOST_ROW = 100


def is_late_row(thing, works):
    """Whether it is a tuple with a whole number from 0 on for each of so many works."""
    if not (isinstance(thing, tuple) and len(thing) == works):
        return False
    return all([is_whole(number) and number >= 0 for number in thing])


def is_table(thing, works, many):
    """Whether it is a table of so many turns and works."""
    if not (isinstance(thing, tuple) and len(thing) == many):
        return False
    return all([is_late_row(row, works) for row in thing])


def late_places(table):
    """The triples (work, turn, number) of the numbers above 0, turn by turn, work by work."""
    return [
        (work, turn, number) for turn, row in enumerate(table) for work, number in enumerate(row) if number > 0
    ]


def is_late_paper(thing, works, many):
    """Whether it is a pair of a table and a tuple of as many things as the table has numbers above 0."""
    if not (isinstance(thing, tuple) and len(thing) == 2):
        return False
    table, chains = thing
    return is_table(table, works, many) and isinstance(chains, tuple) and len(chains) == len(late_places(table))


def span_holds(plan, period, beats, many, table, s):
    """Whether by span s no number is less than it has to be."""
    word, one, other, low, high = plan[1][s]
    step = step_of(plan, period, beats, s)
    buffer = buffer_of(plan, period, beats, s)
    return all([table[turn + step][other] >= table[turn][one] - buffer for turn in range(many - step)])


def led_to(plan, period, beats, waiting, start, row):
    """The (work, turn, late) to which this row leads from such a start, None where it leads nowhere."""
    work, turn, late = start
    for s in row:
        if not (is_whole(s) and s in waiting and plan[1][s][1] == work):
            return None
        work = plan[1][s][2]
        turn += step_of(plan, period, beats, s)
        late -= buffer_of(plan, period, beats, s)
    return (work, turn, late)


def is_chain(plan, period, beats, waiting, given, place, thing):
    """Whether it is a pair (g, row) that leads from what is given to this (work, turn, number)."""
    if not (isinstance(thing, tuple) and len(thing) == 2):
        return False
    g, row = thing
    if not (is_within(g, 0, len(given) - 1) and isinstance(row, tuple) and len(row) <= MOST_ROW):
        return False
    return led_to(plan, period, beats, waiting, given[g], row) == place


def lets_late(plan, period, beats, waiting, given, many, thing):
    """True where this shows the lateness, else NoPaper."""
    if not is_late_paper(thing, len(plan[0]), many):
        raise NoPaper("shape", 0)
    table, chains = thing
    for k, (work, turn, late) in enumerate(given):
        if table[turn][work] < late:
            raise NoPaper("given", k)
    for s in waiting:
        if not span_holds(plan, period, beats, many, table, s):
            raise NoPaper("span", s)
    for k, place in enumerate(late_places(table)):
        if not is_chain(plan, period, beats, waiting, given, place, chains[k]):
            raise NoPaper("chain", k)
    return True
