"""Papers of lateness: the table, and for each number in it a chain that shows where it comes from."""

from beatplans.late import late_chains, table_of


def late_paper(plan, period, beats, waiting, given, many):
    """(table, chains): the lateness, and for each number above 0 a pair (g, row), turn by turn, work by work."""
    chains = late_chains(plan, period, beats, waiting, given, many)
    pairs = tuple([chains[place][1:] for place in sorted(chains)])
    return (table_of(plan, chains, many), pairs)
