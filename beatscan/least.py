"""The least table that tells the same."""


def bits_for(many):
    """The least number b with 2 ** b at least many."""
    bits = 0
    while (1 << bits) < many:
        bits += 1
    return bits


def least(table):
    """The table with the fewest states, and of these the fewest classes, that tells the same of all packets."""
    # Classes that differ in states that are not needed can only be made one behind the states.
    fewer = with_fewest_states(with_fewest_classes(table))
    return with_fewest_classes(fewer)


def with_fewest_classes(table):
    """A table that tells the same, bytes that do the same in all states in one class, numbered by least bytes."""
    classes, rows, tells, ends = table
    deeds = {}
    for number in classes:
        if number not in deeds:
            deeds[number] = tuple((ways[number], told[number]) for ways, told in zip(rows, tells))
    new_numbers = numbered(deeds)
    new_classes = tuple(new_numbers[number] for number in classes)
    kept = [classes[new_classes.index(number)] for number in range(max(new_classes) + 1)]
    new_rows = tuple(tuple(ways[number] for number in kept) for ways in rows)
    new_tells = tuple(tuple(told[number] for number in kept) for told in tells)
    return (new_classes, new_rows, new_tells, ends)


def with_fewest_states(table):
    """A table that tells the same, with a state for each part of the states that bytes lead to, in their order."""
    classes, rows, tells, ends = table
    reached = reached_states(rows)
    parts = parts_of_states(table, reached)
    # Parts are numbered as they are first reached, so the first state of each stands in its number's place.
    stands = {}
    for state in reached:
        if parts[state] not in stands:
            stands[parts[state]] = state
    kept = list(stands.values())
    new_rows = tuple(tuple(parts[to] for to in rows[state]) for state in kept)
    new_tells = tuple(tells[state] for state in kept)
    new_ends = tuple(ends[state] for state in kept)
    return (classes, new_rows, new_tells, new_ends)


def reached_states(rows):
    """The list of the states that bytes lead to, by the shortest, then least bytes, if classes are by least bytes."""
    reached = [0]
    seen = {0: True}
    at = 0
    while at < len(reached):
        for to in rows[reached[at]]:
            if to not in seen:
                seen[to] = True
                reached.append(to)
        at += 1
    return reached


def parts_of_states(table, reached):
    """For each reached state the number of its part: states of one part are told apart by no bytes."""
    _, rows, tells, ends = table
    parts = numbered({state: (ends[state], tells[state]) for state in reached})
    while True:
        finer = numbered({state: (parts[state], tuple(parts[to] for to in rows[state])) for state in reached})
        # Parts only get more, so as many as before are the same ones.
        if max(finer.values()) == max(parts.values()):
            return parts
        parts = finer


def numbered(kinds):
    """For each key of a dict a number of its value, from 0 on as they come, the same for equal values."""
    numbers = {}
    found = {}
    for key, kind in kinds.items():
        if kind not in numbers:
            numbers[kind] = len(numbers)
        found[key] = numbers[kind]
    return found
