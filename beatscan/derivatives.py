"""Whether a tree has the empty row, and what is left of it behind a byte."""

from beatscan.bytesets import has
from beatscan.trees import EMPTY, NOTHING, all_of, any_of, but, row


def has_empty(tree):
    """Whether the empty row is in a tree."""
    word = tree[0]
    if word == "not":
        return not has_empty(tree[1])
    if word == "any of":
        return has_empty_any(tree[1])
    if word == "all of":
        return has_empty_all(tree[1])
    if word == "row":
        return has_empty_row(tree)
    return word in ("empty", "again")


def has_empty_any(trees):
    """Whether the empty row is in one of the trees at least."""
    for tree in trees:
        if has_empty(tree):
            return True
    return False


def has_empty_all(trees):
    """Whether the empty row is in all of the trees."""
    for tree in trees:
        if not has_empty(tree):
            return False
    return True


def has_empty_row(tree):
    """Whether the empty row is in a tree of a row; a loop, as rows may be long and calls must not nest so deep."""
    while tree[0] == "row":
        if not has_empty(tree[1]):
            return False
        tree = tree[2]
    return has_empty(tree)


def derivative(tree, byte):
    """The tree of the rows r such that the byte and then r is in the tree."""
    word = tree[0]
    if word == "some":
        return EMPTY if has(tree[1], byte) else NOTHING
    if word == "row":
        return left_of_row(tree, byte)
    if word == "any of":
        return any_of(left_of_each(tree[1], byte))
    if word == "all of":
        return all_of(left_of_each(tree[1], byte))
    if word == "not":
        return but(derivative(tree[1], byte))
    if word == "again":
        return row(derivative(tree[1], byte), tree)
    return NOTHING


def left_of_each(trees, byte):
    """The list of what is left of each tree."""
    left = []
    for tree in trees:
        left.append(derivative(tree, byte))
    return left


def left_of_row(tree, byte):
    """What is left of a row: of its first piece, and of each next one if all ahead of it have the empty row."""
    ways = []
    rest = tree
    while rest[0] == "row":
        ways.append(row(derivative(rest[1], byte), rest[2]))
        if not has_empty(rest[1]):
            return any_of(ways)
        rest = rest[2]
    ways.append(derivative(rest, byte))
    return any_of(ways)
