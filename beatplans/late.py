"""Lateness followed: the buffers and steps of spans, and how late works are where they wait for others."""

from beatplans.plans import length_of


def buffer_of(plan, period, beats, s):
    """How many beats the length of span s is above its low."""
    return length_of(plan, period, beats, s) - plan[1][s][3]


def step_of(plan, period, beats, s):
    """How many turns later the other work of span s is."""
    word, one, other, low, high = plan[1][s]
    return (beats[one] + length_of(plan, period, beats, s) - beats[other]) // period


def ways_of(plan, period, beats, waiting):
    """For each waiting span (s, one, other, step, buffer)."""
    ways = []
    for s in waiting:
        word, one, other, low, high = plan[1][s]
        ways.append((s, one, other, step_of(plan, period, beats, s), buffer_of(plan, period, beats, s)))
    return ways


def number_at(chains, turn, work):
    """How late the chains laid so far make this work at that turn."""
    return chains[(turn, work)][0] if (turn, work) in chains else 0


def lay_chain(chains, turn, work, chain):
    """Whether this chain makes the work later at that turn than it was; if so, it is laid there."""
    if chain[0] <= number_at(chains, turn, work):
        return False
    chains[(turn, work)] = chain
    return True


def hand_on(chains, ways, many):
    """Whether lateness handed on once by each waiting span and turn made some work later."""
    later = False
    for s, one, other, step, buffer in ways:
        for turn in range(many - step):
            if (turn, one) in chains:
                number, g, row = chains[(turn, one)]
                if lay_chain(chains, turn + step, other, (number - buffer, g, row + (s,))):
                    later = True
    return later


def late_chains(plan, period, beats, waiting, given, many):
    """A dict: for each (turn, work) that is late (number, g, row), the row leading there from the given g."""
    chains = {}
    for g, (work, turn, late) in enumerate(given):
        lay_chain(chains, turn, work, (late, g, ()))
    ways = ways_of(plan, period, beats, waiting)
    # Buffers are 0 or above: going around makes nothing later, so this ends, and no row comes to one place twice.
    later = True
    while later:
        later = hand_on(chains, ways, many)
    return chains


def table_of(plan, chains, many):
    """The table of what these chains come to: for each turn a tuple with a number for each work."""
    return tuple([tuple([number_at(chains, turn, work) for work in range(len(plan[0]))]) for turn in range(many)])


def lateness_of(plan, period, beats, waiting, given, many):
    """The table of the least lateness."""
    return table_of(plan, late_chains(plan, period, beats, waiting, given, many), many)


def buffer_left(plan, period, beats, waiting, work):
    """The least buffer of the waiting spans from this work to another one or a later turn, None where there is none."""
    buffers = [
        buffer for s, one, other, step, buffer in ways_of(plan, period, beats, waiting)
        if one == work and (other != work or step > 0)
    ]
    return min(buffers, default=None)
