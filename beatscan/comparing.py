"""How the rows of trees compare, by what is left of the trees."""

from beatscan.bytesets import set_of
from beatscan.errors import BadThing
from beatscan.leftovers import Leftovers, byte_classes, sets_in
from beatscan.tables import tries_of

MOST_LEFT = 300


class Comparing:
    """Trees of the sets that stand in some trees, all that is left of them worked out once."""

    def __init__(self, trees):
        self.classes = byte_classes(sets_in(trees))
        self.tries = tries_of(self.classes)
        self.left = Leftovers(self.tries)
        # For each tree that was counted whether at most 300 trees are left of it.
        self.are_few = {}

    def number_of(self, tree):
        """The number of a tree; BadThing(300) if more than 300 trees are left of it."""
        number = self.left.numbered(tree)
        if number not in self.are_few:
            self.are_few[number] = self.is_within_limit(number)
        if not self.are_few[number]:
            raise BadThing(MOST_LEFT)
        return number

    def is_within_limit(self, number):
        """Whether at most 300 trees are left of a tree, itself too."""
        found = [number]
        seen = {number: True}
        at = 0
        while at < len(found) <= MOST_LEFT:
            ways = self.left.left_of(found[at])
            for behind in ways:
                if behind not in seen:
                    seen[behind] = True
                    found.append(behind)
            at += 1
        return len(found) <= MOST_LEFT

    def is_within(self, one, other):
        """Whether all rows of a tree are of another one, by their numbers."""
        pairs = [(one, other)]
        seen = {pairs[0]: True}
        at = 0
        while at < len(pairs):
            first, second = pairs[at]
            if self.left.is_end(first) and not self.left.is_end(second):
                return False
            for pair in zip(self.left.left_of(first), self.left.left_of(second)):
                # A tree is within itself.
                if pair[0] != pair[1] and pair not in seen:
                    seen[pair] = True
                    pairs.append(pair)
            at += 1
        return True

    def is_alike(self, one, other):
        """Whether two trees have the same rows, by their numbers."""
        return self.is_within(one, other) and self.is_within(other, one)

    def bytes_in(self, tree):
        """The set of the bytes that are rows of a tree."""
        ways = self.left.left_of(self.left.numbered(tree))
        return set_of([byte for byte, number in enumerate(self.classes) if self.left.is_end(ways[number])])

    def is_known_alike(self, one, other):
        """Whether two trees have the same rows, if not too many trees are left of either to tell."""
        try:
            numbers = (self.number_of(one), self.number_of(other))
        except BadThing:
            return False
        return self.is_alike(numbers[0], numbers[1])
