"""Whether two books tell the same."""

from beatscan.least import least
from beatscan.searches import shortest_way
from beatscan.tables import step, table_of


def apart_packet(one, other):
    """The shortest, then least packet of which two books tell unlike names, None if there is none."""
    tables = (table_of_names(one), table_of_names(other))
    pairs = list(zip(tables[0][0], tables[1][0]))
    tries = [at for at, pair in enumerate(pairs) if pairs.index(pair) == at]

    def is_apart(states):
        # None stands for the place behind a byte on which unlike names are told.
        return states is None or tables[0][3][states[0]] != tables[1][3][states[1]]

    def ways_from(states):
        return [(byte, states_behind_both(tables, states, byte)) for byte in tries]

    return shortest_way((0, 0), is_apart, ways_from)


def states_behind_both(tables, states, byte):
    """The states of two tables behind a byte, None if they tell unlike things of it."""
    first, first_told = step(tables[0], states[0], byte)
    second, second_told = step(tables[1], states[1], byte)
    if first_told != second_told:
        return None
    return (first, second)


def table_of_names(book):
    """The least table that tells what a book means, with names in the place of numbers."""
    classes, rows, tells, ends = table_of(book)
    named_tells = tuple(tuple(names_of(book, rules) for rules in told) for told in tells)
    return least((classes, rows, named_tells, tuple(names_of(book, rules) for rules in ends)))


def names_of(book, rules):
    """The ascending tuple of the names of rules."""
    return tuple(sorted(book[rule][0] for rule in rules))
