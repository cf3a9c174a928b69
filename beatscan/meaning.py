"""What trees and books mean, by the words of the trees alone."""

from beatscan.bytesets import has
from beatscan.trees import pieces_of


def is_in(tree, packet):
    """Whether a row of bytes is in a tree."""
    return has(ends_of(tree, packet)[0], len(packet))


def told_in(book, packet):
    """For each byte the rules that match behind it and aren't is_last, then those at the packet's end."""
    many = len(packet)
    told = [[] for _ in range(many + 1)]
    for number, rule in enumerate(book):
        is_last = rule[2]
        for behind in places_of(rule, packet):
            if not is_last:
                told[behind - 1].append(number)
            elif behind == many:
                told[many].append(number)
    return tuple(tuple(rules) for rules in told)


def places_of(rule, packet):
    """The ascending list of how many bytes of a packet a rule matches behind."""
    is_first = rule[1]
    ends = ends_of(rule[3], packet)
    places = []
    for behind in range(1, len(packet) + 1):
        many_starts = 1 if is_first else behind
        if any(has(ends[start], behind) for start in range(many_starts)):
            places.append(behind)
    return places


def ends_of(tree, packet):
    """A list: for each place of a packet the places, as bits, where rows of a tree end that begin there."""
    word = tree[0]
    many = len(packet)
    if word == "nothing":
        return [0 for _ in range(many + 1)]
    if word == "empty":
        return [1 << start for start in range(many + 1)]
    if word == "some":
        return [1 << (start + 1) if has(tree[1], byte) else 0 for start, byte in enumerate(packet)] + [0]
    if word == "row":
        return ends_of_row(tree, packet)
    if word == "any of":
        return ends_of_any(tree[1], packet)
    if word == "all of":
        return ends_of_all(tree[1], packet)
    if word == "not":
        return ends_of_others(ends_of(tree[1], packet))
    return ends_of_again(ends_of(tree[1], packet))


def ends_of_row(tree, packet):
    """The ends of a row: those of its last piece, then of each piece ahead and what is known to come."""
    pieces = pieces_of(tree)
    ends = ends_of(pieces[-1], packet)
    for piece in reversed(pieces[:-1]):
        firsts = ends_of(piece, packet)
        ends = [ends_behind(first, ends) for first in firsts]
    return ends


def ends_of_any(trees, packet):
    """The ends of the rows that are in one of the trees at least."""
    found = [0 for _ in range(len(packet) + 1)]
    for tree in trees:
        for start, ends in enumerate(ends_of(tree, packet)):
            found[start] |= ends
    return found


def ends_of_all(trees, packet):
    """The ends of the rows that are in all of the trees."""
    found = every_end(len(packet))
    for tree in trees:
        for start, ends in enumerate(ends_of(tree, packet)):
            found[start] &= ends
    return found


def ends_of_others(once):
    """The ends of the rows that are not in a tree whose ends are told."""
    every = every_end(len(once) - 1)
    return [every[start] & ~ends for start, ends in enumerate(once)]


def ends_of_again(once):
    """The ends of the rows of none or more of a tree whose ends are told."""
    found = [0 for _ in once]
    # From the back: what comes behind a row that is not empty is known by then.
    for start in reversed(range(len(once))):
        found[start] = (1 << start) | ends_behind(once[start], found)
    return found


def every_end(many):
    """For each place of a packet of so many bytes, it and all places behind it."""
    return [((1 << (many + 1)) - 1) >> start << start for start in range(many + 1)]


def ends_behind(middles, ends):
    """The ends that are reached from any of the places that are told as bits."""
    found = 0
    for start, more in enumerate(ends):
        if has(middles, start):
            found |= more
    return found
