"""Papers: that a table is the least one, shown so that one can look it through."""

from beatscan.kinds import is_number, is_packet, is_tuple_of
from beatscan.least import reached_states
from beatscan.tables import run_from, state_behind, tries_of


def told_from(table, state, packet):
    """What a table tells of a packet from a state on, as run does from state 0 on."""
    return run_from(table, state, packet)


def paper_of(table):
    """A paper for a least table: (reach, apart, classes)."""
    return (ways_to_states(table), endings_of_states(table), states_of_classes(table))


def ways_to_states(table):
    """For each state the bytes that lead to it, as few as can be."""
    rows = table[1]
    tries = tries_of(table[0])
    ways = {0: ()}
    for state in reached_states(rows):
        for number, to in enumerate(rows[state]):
            if to not in ways:
                ways[to] = ways[state] + (tries[number],)
    return tuple(ways[state] for state in range(len(rows)))


def endings_of_states(table):
    """For each state and each one behind it bytes on which they are told apart."""
    found = endings_of_pairs(table)
    many = len(table[1])
    return tuple(tuple(found[low, high] for high in range(low + 1, many)) for low in range(many))


def endings_of_pairs(table):
    """A dict from the pairs of states, the lesser first, to bytes on which they are told apart, as few as can be."""
    ends = table[3]
    pairs = [(low, high) for high in range(len(ends)) for low in range(high)]
    found = {(low, high): () for low, high in pairs if ends[low] != ends[high]}
    waiting = [pair for pair in pairs if pair not in found]
    tries = tries_of(table[0])
    while waiting:
        # What is found now is known from the next time on only, so the endings get longer by one byte each time.
        longer = {pair: one_more(table, tries, pair, found) for pair in waiting}
        found.update({pair: ending for pair, ending in longer.items() if ending is not None})
        waiting = [pair for pair in waiting if pair not in found]
    return found


def one_more(table, tries, pair, known):
    """One byte, and then an ending that is known, on which two states are told apart, or None."""
    _, rows, tells, _ = table
    low, high = pair
    for number, byte in enumerate(tries):
        if tells[low][number] != tells[high][number]:
            return (byte,)
        ways = (rows[low][number], rows[high][number])
        ending = known.get((min(ways), max(ways)))
        if ending is not None:
            return (byte,) + ending
    return None


def states_of_classes(table):
    """For each class and each one behind it a state in which they do unlike things."""
    many = len(table[1][0])
    return tuple(tuple(unlike_state(table, low, high) for high in range(low + 1, many)) for low in range(many))


def unlike_state(table, low, high):
    """The first state in which two classes do unlike things."""
    return next((state for state in range(len(table[1])) if is_unlike(table, state, low, high)), None)


def is_unlike(table, state, low, high):
    """Whether two classes do unlike things in a state."""
    _, rows, tells, _ = table
    return rows[state][low] != rows[state][high] or tells[state][low] != tells[state][high]


def is_paper(table, paper):
    """Whether a thing is a paper for a table."""
    if not is_tuple_of(paper, 3):
        return False
    reach, apart, classes = paper
    return is_reach(table, reach) and is_apart(table, apart) and is_classes(table, classes)


def is_reach(table, reach):
    """Whether a thing has bytes for each state that lead to it."""
    if not is_tuple_of(reach, len(table[1])):
        return False
    return all(is_packet(way) and state_behind(table, way) == state for state, way in enumerate(reach))


def is_apart(table, apart):
    """Whether a thing has bytes for each two states on which they are told apart."""
    many = len(table[1])
    if not is_triangle(apart, many):
        return False
    return all(tells_apart(table, low, high, apart[low][high - low - 1])
               for low in range(many) for high in range(low + 1, many))


def tells_apart(table, low, high, ending):
    """Whether a thing is bytes on which two states are told apart."""
    return is_packet(ending) and told_from(table, low, ending) != told_from(table, high, ending)


def is_classes(table, classes):
    """Whether a thing has a state for each two classes in which they do unlike things."""
    many = len(table[1][0])
    if not is_triangle(classes, many):
        return False
    return all(shows_unlike(table, classes[low][high - low - 1], low, high)
               for low in range(many) for high in range(low + 1, many))


def shows_unlike(table, state, low, high):
    """Whether a thing is a state in which two classes do unlike things."""
    return is_number(state) and 0 <= state < len(table[1]) and is_unlike(table, state, low, high)


def is_triangle(thing, many):
    """Whether a thing is a tuple of so many tuples, each with a thing for each one behind it."""
    if not is_tuple_of(thing, many):
        return False
    return all(is_tuple_of(part, many - 1 - at) for at, part in enumerate(thing))
