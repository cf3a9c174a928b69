"""Tables that tell what a book means, and how they run."""

from beatscan.bytesets import EVERY_BYTE
from beatscan.derivatives import has_empty
from beatscan.errors import BadThing
from beatscan.leftovers import Leftovers, byte_classes, sets_in
from beatscan.trees import EMPTY, again, all_of, but, row, some

MOST_STATES = 300


def table_of(book):
    """A table (classes, rows, tells, ends) that tells what a book means."""
    trees = [first_tree(rule) for rule in book]
    classes = byte_classes(sets_in(trees))
    left = Leftovers(tries_of(classes))
    states = [tuple(left.numbered(tree) for tree in trees)]
    numbers = {states[0]: 0}
    rows = []
    while len(rows) < len(states):
        ways = []
        for state in states_behind(states[len(rows)], left):
            if state not in numbers:
                if len(states) == MOST_STATES:
                    raise BadThing(MOST_STATES)
                numbers[state] = len(states)
                states.append(state)
            ways.append(numbers[state])
        rows.append(tuple(ways))
    on_way = [rules_told(book, state, left, False) for state in states]
    tells = tuple(tuple(on_way[state] for state in ways) for ways in rows)
    ends = tuple(rules_told(book, state, left, True) for state in states)
    return (classes, tuple(rows), tells, ends)


def first_tree(rule):
    """The tree of all beginnings of a packet at whose end a rule matches."""
    tree = rule[3]
    if has_empty(tree):
        # A match is never the empty row, even if a book that was not read has it in a tree.
        tree = all_of([tree, but(EMPTY)])
    if rule[1]:
        return tree
    return row(again(some(EVERY_BYTE)), tree)


def states_behind(state, left):
    """The list of the states behind one, for each class; a state is a tuple of a tree's number for each rule."""
    ways = [left.left_of(number) for number in state]
    return [tuple(way[at] for way in ways) for at in range(len(left.tries))]


def rules_told(book, state, left, is_last):
    """The rules, of those that are is_last or of the others, that match behind the bytes that lead to a state."""
    told = []
    for rule, number in enumerate(state):
        if book[rule][2] == is_last and left.is_end(number):
            told.append(rule)
    return tuple(told)


def step(table, state, byte):
    """The pair of the next state and the rules told on this step."""
    classes, rows, tells, _ = table
    at = classes[byte]
    return (rows[state][at], tells[state][at])


def run(table, packet):
    """What a table tells of a packet, as told_in."""
    return run_from(table, 0, packet)


def run_from(table, state, packet):
    """What a table tells of bytes that come behind those that lead to a state, and at their end."""
    told = []
    for byte in packet:
        state, rules = step(table, state, byte)
        told.append(rules)
    told.append(table[3][state])
    return tuple(told)


def state_behind(table, packet):
    """The state behind the bytes of a packet."""
    state = 0
    for byte in packet:
        state = step(table, state, byte)[0]
    return state


def tries_of(classes):
    """The list of the least bytes of the classes."""
    return [classes.index(number) for number in range(max(classes) + 1)]
