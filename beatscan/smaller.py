"""The rows of patterns: the shortest one, whether those of two are the same, and smaller patterns for them."""

from beatscan.comparing import Comparing
from beatscan.derivatives import has_empty
from beatscan.searches import shortest_way
from beatscan.trees import EMPTY, EVERY_ROW, again, all_of, any_of, but, parts_of, pieces_of, row, size_of, some


def shortest_in(tree):
    """The shortest, then least row of a tree, None if it has none."""
    comparing = Comparing([tree])

    def is_end(number):
        return comparing.left.is_end(number)

    def ways_from(number):
        return list(zip(comparing.tries, comparing.left.left_of(number)))

    return shortest_way(comparing.number_of(tree), is_end, ways_from)


def is_within(one, other):
    """Whether all rows of a tree are of another one."""
    comparing = Comparing([one, other])
    return comparing.is_within(comparing.number_of(one), comparing.number_of(other))


def is_alike(one, other):
    """Whether two trees have the same rows."""
    comparing = Comparing([one, other])
    return comparing.is_alike(comparing.number_of(one), comparing.number_of(other))


def smaller(tree):
    """A tree with the same rows that is not larger."""
    comparing = Comparing([tree])
    # Raises the error of a tree of which too much is left; of its parts more may be left than of itself.
    comparing.number_of(tree)
    made = made_smaller(comparing, tree)
    return made if size_of(made) < size_of(tree) else tree


def made_smaller(comparing, tree):
    """A tree with the same rows: its parts made smaller, then it itself, as long as something smaller is known."""
    made = with_smaller_parts(comparing, tree)
    while True:
        found = first_smaller(comparing, made)
        if found is None:
            return made
        made = found


def with_smaller_parts(comparing, tree):
    """A tree with the same rows, its parts made smaller."""
    word = tree[0]
    if word == "row":
        pieces = [made_smaller(comparing, piece) for piece in pieces_of(tree)]
        return row_of(needed_pieces(comparing, pieces))
    parts = [made_smaller(comparing, part) for part in parts_of(tree)]
    if word == "any of":
        return any_of(parts)
    if word == "all of":
        return all_of(parts)
    if word == "not":
        return but(parts[0])
    if word == "again":
        return again(parts[0])
    return tree


def row_of(pieces):
    """The tree of the rows that are one of each piece, one behind another."""
    made = EMPTY
    for piece in reversed(pieces):
        made = row(piece, made)
    return made


def needed_pieces(comparing, pieces):
    """The list of the pieces of a row without those that say nothing beside a neighbour, as again beside again."""
    needed = []
    for piece in pieces:
        # Only a piece that has the empty row may say nothing.
        while needed and has_empty(needed[-1]) and comparing.is_known_alike(row(needed[-1], piece), piece):
            needed.pop()
        if not (needed and has_empty(piece) and comparing.is_known_alike(row(needed[-1], piece), needed[-1])):
            needed.append(piece)
    return needed


def first_smaller(comparing, tree):
    """The first of the trees to be tried for a tree that is smaller and has the same rows, None if there is none."""
    size = size_of(tree)
    for other in [some(comparing.bytes_in(tree)), *trees_to_try(tree)]:
        if size_of(other) < size and comparing.is_known_alike(other, tree):
            return other
    return None


def trees_to_try(tree):
    """The list of trees that may have the same rows as a tree."""
    word = tree[0]
    found = [EMPTY, EVERY_ROW, *parts_of(tree)]
    if word == "any of":
        found.extend([any_of(rest) for rest in with_one_left_out(tree[1])])
    if word == "all of":
        found.extend([all_of(rest) for rest in with_one_left_out(tree[1])])
    if word == "again":
        found.extend([again(other) for other in trees_to_try_again(tree[1])])
    return found


def trees_to_try_again(tree):
    """The list of trees again of which may have the same rows as again of a tree."""
    if tree[0] == "row":
        parts = pieces_of(tree)
        found = list(parts)
    elif tree[0] == "any of":
        parts = tree[1]
        found = [any_of(rest) for rest in with_one_left_out(parts)]
    else:
        return []
    found.append(any_of([part[1] if part[0] == "again" else part for part in parts]))
    return found


def with_one_left_out(parts):
    """For each of the parts the tuple of all others."""
    return [parts[:at] + parts[at + 1:] for at in range(len(parts))]
