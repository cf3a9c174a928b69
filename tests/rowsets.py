"""A reading of trees for the tests alone: the set of all short rows over a few bytes, by the words of [4]."""

import random

from beatscan.trees import again, all_of, any_of, but, row, some
from beatscan.bytesets import set_of

SIGNS = (97, 98, 255)
WORDS = ("nothing", "empty", "some", "row", "any of", "all of", "not", "again")


def all_packets(most, signs=SIGNS):
    """All packets of at most so many bytes, the shortest first."""
    found = [()]
    last = [()]
    for _ in range(most):
        last = [packet + (sign,) for packet in last for sign in signs]
        found.extend(last)
    return found


def rows_in(tree, most, signs=SIGNS):
    """The set of the rows of a tree that have at most so many bytes, all of signs."""
    word = tree[0]
    if word == "nothing":
        return set()
    if word == "empty":
        return {()}
    if word == "some":
        return {(sign,) for sign in signs if tree[1] >> sign & 1} if most else set()
    if word == "row":
        return joined(rows_in(tree[1], most, signs), rows_in(tree[2], most, signs), most)
    if word == "any of":
        return set().union(*[rows_in(part, most, signs) for part in tree[1]])
    if word == "all of":
        found = set(all_packets(most, signs))
        return found.intersection(*[rows_in(part, most, signs) for part in tree[1]])
    if word == "not":
        return set(all_packets(most, signs)) - rows_in(tree[1], most, signs)
    if word == "again":
        once = rows_in(tree[1], most, signs)
        found = {()}
        while True:
            more = found | joined(found, once, most)
            if more == found:
                return found
            found = more
    raise AssertionError(f"no word of a tree: {word}")


def joined(firsts, seconds, most):
    return {a + b for a in firsts for b in seconds if len(a) + len(b) <= most}


def is_in_form(tree):
    """Whether a tree is in the one form of [4]."""
    if not isinstance(tree, tuple) or not tree or tree[0] not in WORDS:
        return False
    word = tree[0]
    if word in ("nothing", "empty"):
        return len(tree) == 1
    if word == "some":
        return len(tree) == 2 and isinstance(tree[1], int) and 0 < tree[1] < 1 << 256
    if word == "row":
        a_row = len(tree) == 3 and is_in_form(tree[1]) and is_in_form(tree[2]) and tree[1][0] != "row"
        return a_row and not {tree[1][0], tree[2][0]} & {"nothing", "empty"}
    if word in ("any of", "all of"):
        return len(tree) == 2 and are_parts(word, tree[1])
    if word == "not":
        return len(tree) == 2 and is_in_form(tree[1]) and tree[1][0] != "not"
    return len(tree) == 2 and is_in_form(tree[1]) and tree[1][0] not in ("again", "nothing", "empty")


def are_parts(word, parts):
    left_out = [("nothing",), ("not", ("nothing",))]
    words = [part[0] for part in parts]
    texts = [str(part) for part in parts]
    return (isinstance(parts, tuple) and len(parts) >= 2 and all(is_in_form(part) for part in parts)
            and texts == sorted(set(texts)) and word not in words and words.count("some") <= 1
            and not any(part in left_out for part in parts))


def random_tree(dice, depth, signs=SIGNS):
    """A tree of all words, built by the makers."""
    kind = dice.randrange(10) if depth else dice.randrange(3)
    if kind < 3:
        return some(set_of(dice.sample(signs, dice.randint(1, len(signs)))))
    if kind == 3:
        return dice.choice([("nothing",), ("empty",)])
    parts = [random_tree(dice, depth - 1, signs) for _ in range(dice.randint(2, 3))]
    if kind == 4:
        return any_of(parts)
    if kind == 5:
        return all_of(parts)
    if kind == 6:
        return but(parts[0])
    if kind == 7:
        return again(parts[0])
    return row(parts[0], parts[1])


def random_trees(seed, many, depth, signs=SIGNS):
    dice = random.Random(seed)
    return [random_tree(dice, depth, signs) for _ in range(many)]


def words_of(tree):
    """All words that stand in a tree."""
    found = {tree[0]}
    for part in tree[1:]:
        if isinstance(part, tuple):
            for below in ([part] if isinstance(part[0], str) else part):
                found |= words_of(below)
    return found
