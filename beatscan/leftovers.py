"""Numbers for the trees that are left of trees, each worked out once."""

from beatscan.bytesets import has
from beatscan.derivatives import derivative, has_empty
from beatscan.trees import parts_of


class Leftovers:
    """Trees by their numbers, and for each class of bytes the number of what is left of a tree behind one of them."""

    def __init__(self, tries):
        # A byte of each class.
        self.tries = tries
        self.numbers = {}
        self.trees = []
        self.ends = []
        self.ways = []

    def numbered(self, tree):
        """The number of a tree."""
        text = str(tree)
        if text not in self.numbers:
            self.numbers[text] = len(self.trees)
            self.trees.append(tree)
            self.ends.append(has_empty(tree))
            self.ways.append(None)
        return self.numbers[text]

    def is_end(self, number):
        """Whether a tree has the empty row."""
        return self.ends[number]

    def left_of(self, number):
        """The list of the numbers of what is left of a tree, for each class."""
        if self.ways[number] is None:
            self.ways[number] = self.worked_out(number)
        return self.ways[number]

    def worked_out(self, number):
        """As left_of; bytes that the tree can't tell apart at first are worked out once."""
        tree = self.trees[number]
        sets = sets_at_first(tree)
        known = {}
        left = []
        for byte in self.tries:
            kind = kind_of(byte, sets)
            if kind not in known:
                known[kind] = self.numbered(derivative(tree, byte))
            left.append(known[kind])
        return left


def sets_at_first(tree):
    """The sets on which it depends what is left of a tree behind one byte."""
    found = {}
    waiting = [tree]
    while waiting:
        part = waiting.pop()
        if part[0] == "some":
            found[part[1]] = True
        elif part[0] == "row" and not has_empty(part[1]):
            waiting.append(part[1])
        else:
            waiting.extend(parts_of(part))
    return list(found)


def sets_in(trees):
    """All sets that stand in trees."""
    found = {}
    waiting = list(trees)
    while waiting:
        part = waiting.pop()
        if part[0] == "some":
            found[part[1]] = True
        waiting.extend(parts_of(part))
    return list(found)


def kind_of(byte, sets):
    """In which of the sets a byte is."""
    return tuple(has(chosen, byte) for chosen in sets)


def byte_classes(sets):
    """The class of each byte, numbered by their least bytes: bytes in the same sets are in one."""
    numbers = {}
    classes = []
    for byte in range(256):
        kind = kind_of(byte, sets)
        if kind not in numbers:
            numbers[kind] = len(numbers)
        classes.append(numbers[kind])
    return tuple(classes)
