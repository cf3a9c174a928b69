"""Trees of defaults: a state keeps only those entries that are unlike those of the state it falls back on.

An entry of a table is the pair of the next state and the rules told, for a state and a class.
"""

from beatscan.errors import BadThing
from beatscan.kinds import is_number, is_tuple_of


def is_tree(table, tree):
    """Whether a thing is a tree of defaults of a table."""
    return is_tuple_of(tree, len(table[1])) and leads_to_first(tree)


def leads_to_first(tree):
    """Whether a tuple has -1 for state 0 and for each other state a parent, all ways leading to state 0."""
    if tree[:1] != (-1,) or not all(is_number(parent) for parent in tree):
        return False
    return len(looks_of(tree)) == len(tree)


def looks_of(tree):
    """For each state whose way leads to state 0 how many states stand on it, both ends counted."""
    below = {}
    for state, parent in enumerate(tree):
        below.setdefault(parent, []).append(state)
    looks = {0: 1}
    waiting = [0]
    # State 0 has no parent and each other state has one, so none is come to twice.
    while waiting:
        parent = waiting.pop()
        for state in below.get(parent, []):
            looks[state] = looks[parent] + 1
            waiting.append(state)
    return looks


def check_tree(table, tree):
    """Raises BadThing for what is no tree of defaults of a table."""
    if not is_tree(table, tree):
        raise BadThing(tree)


def entry_of(table, state, number):
    """The entry of a state and a class."""
    _, rows, tells, _ = table
    return (rows[state][number], tells[state][number])


def classes_alike(table, one, other):
    """The list of the classes in which two states have equal entries."""
    return [number for number in range(len(table[1][0]))
            if entry_of(table, one, number) == entry_of(table, other, number)]


def is_kept(table, tree, state, number):
    """Whether a state keeps its entry for a class."""
    return state == 0 or entry_of(table, state, number) != entry_of(table, tree[state], number)


def entries_of(table, tree):
    """How many entries are kept by a tree."""
    check_tree(table, tree)
    rows = table[1]
    left_out = [len(classes_alike(table, state, tree[state])) for state in range(1, len(rows))]
    return len(rows) * len(rows[0]) - sum(left_out)


def best_tree(table):
    """A tree by which the fewest entries are kept: each time the state is put to it that is most alike one of its."""
    tree = [-1] * len(table[1])
    # For each state that is not in the tree yet: in how many classes it is most alike one that is, and this one.
    waiting = {state: (len(classes_alike(table, state, 0)), 0) for state in range(1, len(tree))}
    while waiting:
        # Of several the least state.
        most = max([alike for alike, _ in waiting.values()])
        chosen = min([state for state, (alike, _) in waiting.items() if alike == most])
        tree[chosen] = waiting[chosen][1]
        del waiting[chosen]
        waiting = {state: more_alike(table, state, way, chosen) for state, way in waiting.items()}
    return tuple(tree)


def more_alike(table, state, way, other):
    """The pair way of a state, or that of another parent if the state is alike this one in more classes."""
    alike = len(classes_alike(table, state, other))
    return (alike, other) if alike > way[0] else way


def is_best(table, tree):
    """Whether a thing is a tree of defaults of a table, and no tree keeps fewer entries."""
    return is_tree(table, tree) and entries_of(table, tree) == entries_of(table, best_tree(table))


def most_looks(tree):
    """The most states on a way to state 0, both ends counted."""
    if not isinstance(tree, tuple) or not leads_to_first(tree):
        raise BadThing(tree)
    return max(looks_of(tree).values())


def default_run(table, tree, packet):
    """The pair of what run tells, read off the entries that are kept, and of how many states were looked at."""
    check_tree(table, tree)
    state = 0
    told = []
    looks = 0
    for byte in packet:
        number = table[0][byte]
        keeper, looked_at = keeper_of(table, tree, state, number)
        state, rules = entry_of(table, keeper, number)
        told.append(rules)
        looks += looked_at
    told.append(table[3][state])
    return (tuple(told), looks)


def keeper_of(table, tree, state, number):
    """The pair of the first state on the way up that keeps its entry for a class, and of how many were looked at."""
    looks = 1
    while not is_kept(table, tree, state, number):
        state = tree[state]
        looks += 1
    return (state, looks)
