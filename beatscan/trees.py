"""Trees: patterns in one form, and the makers that bring them into it."""

from beatscan.bytesets import EVERY_BYTE

NOTHING = ("nothing",)
EMPTY = ("empty",)
EVERY_ROW = ("not", ("nothing",))


def some(chosen):
    """The tree of one byte of a set."""
    if chosen == 0:
        return NOTHING
    return ("some", chosen)


def row(a, b):
    """The tree of the rows that are one of a and then one of b."""
    if a == NOTHING or b == NOTHING:
        return NOTHING
    if a == EMPTY:
        return b
    if b == EMPTY:
        return a
    made = b
    for piece in reversed(pieces_of(a)):
        made = ("row", piece, made)
    return made


def any_of(trees):
    """The tree of the rows that are in one of the trees at least."""
    parts = taken_apart("any of", trees)
    if EVERY_ROW in parts:
        return EVERY_ROW
    union = 0
    for chosen in sets_among(parts):
        union |= chosen
    return put_together("any of", others_among(parts) + [some(union)], NOTHING)


def all_of(trees):
    """The tree of the rows that are in all of the trees."""
    parts = taken_apart("all of", trees)
    others = others_among(parts)
    sets = sets_among(parts)
    if sets:
        meet = EVERY_BYTE
        for chosen in sets:
            meet &= chosen
        others.append(some(meet))
    if NOTHING in others:
        return NOTHING
    return put_together("all of", others, EVERY_ROW)


def but(a):
    """The tree of the rows that a has not."""
    if a[0] == "not":
        return a[1]
    return ("not", a)


def again(a):
    """The tree of the rows of none or more of a."""
    if a in (NOTHING, EMPTY):
        return EMPTY
    if a[0] == "again":
        return a
    return ("again", a)


def times(a, least, most):
    """The tree of least to most of a; any number from least on if most is None."""
    if most is None:
        made = again(a)
    else:
        made = at_most(a, most - least)
    for _ in range(least):
        made = row(a, made)
    return made


def at_most(a, most):
    """The tree of none to most of a."""
    made = EMPTY
    for _ in range(most):
        made = any_of([EMPTY, row(a, made)])
    return made


def taken_apart(word, trees):
    """The trees, those of the word replaced by their parts."""
    parts = []
    for tree in trees:
        if tree[0] == word:
            parts.extend(tree[1])
        else:
            parts.append(tree)
    return parts


def sets_among(trees):
    """The sets of the trees that are one byte of a set."""
    return [tree[1] for tree in trees if tree[0] == "some"]


def others_among(trees):
    """The trees that are not one byte of a set."""
    return [tree for tree in trees if tree[0] != "some"]


def put_together(word, parts, said_by_none):
    """The tree of a word and parts, each once; said_by_none is what it is of no part, and no part that counts."""
    by_text = {str(part): part for part in parts if part != said_by_none}
    kept = tuple(by_text[text] for text in sorted(by_text))
    if not kept:
        return said_by_none
    if len(kept) == 1:
        return kept[0]
    return (word, kept)


def pieces_of(tree):
    """The list of the trees that stand one behind another in a row; of another tree itself alone."""
    pieces = []
    while tree[0] == "row":
        pieces.append(tree[1])
        tree = tree[2]
    pieces.append(tree)
    return pieces


def parts_of(tree):
    """The trees right below a tree."""
    word = tree[0]
    if word == "row":
        return tree[1:]
    if word in ("any of", "all of"):
        return tree[1]
    if word in ("not", "again"):
        return (tree[1],)
    return ()


def size_of(tree):
    """Of how many trees a tree is made, itself too."""
    many = 0
    waiting = [tree]
    while waiting:
        part = waiting.pop()
        waiting.extend(parts_of(part))
        many += 1
    return many
