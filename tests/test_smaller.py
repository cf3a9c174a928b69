import itertools
import random
import unittest

from beatscan.bookreader import read_book
from beatscan.derivatives import derivative
from beatscan.errors import BadThing
from beatscan.meaning import is_in
from beatscan.smaller import is_alike, is_within, shortest_in, smaller
from beatscan.trees import (
    EMPTY, EVERY_ROW, NOTHING, again, all_of, any_of, but, parts_of, row, size_of, some, times)
from beatscan.bytesets import EVERY_BYTE, set_of
from tests.rowsets import SIGNS, is_in_form, random_trees, rows_in

A, B, C = (some(set_of([byte])) for byte in (97, 98, 99))
ANY = some(EVERY_BYTE)
TREES = random_trees(280, 250, 3) + random_trees(281, 250, 2)


def tree_of(text):
    return read_book(f"x: {text}")[0][3]


def many_left(tree):
    """How many trees are left of a tree, as far as 400."""
    found = {str(tree): tree}
    waiting = [tree]
    while waiting and len(found) < 400:
        part = waiting.pop()
        for byte in (0, 97, 98, 99, 255):
            behind = derivative(part, byte)
            if str(behind) not in found:
                found[str(behind)] = behind
                waiting.append(behind)
    return len(found)


def shortest_of(tree, most, signs):
    """The shortest, then least row of a few signs."""
    for many in range(most + 1):
        for packet in itertools.product(sorted(signs), repeat=many):
            if is_in(tree, packet):
                return packet
    return None


# More than 300 trees are left of each; no short row tells.
HUGE = [tree_of("(a|b)*a(a|b){9}"), times(A, 299, 299), times(A, 301, 301), row(tree_of(".*a.{9}"), B),
        but(tree_of("(a|b)*a(a|b){9}"))]


class Shortest(unittest.TestCase):
    def test_the_example(self):
        self.assertEqual((shortest_in(row(B, A)), is_within(A, any_of([A, B])), is_alike(again(again(A)), again(A)),
                          smaller(any_of([again(A), row(A, A)])) == again(A)), ((98, 97), True, True, True))

    def test_by_hand(self):
        for tree, right in ((NOTHING, None), (EMPTY, ()), (EVERY_ROW, ()), (A, (97,)), (ANY, (0,)), (again(A), ()),
                            (some(set_of([255, 3])), (3,)), (but(EMPTY), (0,)), (any_of([row(A, A), B]), (98,)),
                            (any_of([row(B, A), row(A, C)]), (97, 99)), (all_of([A, B]), None),
                            (all_of([but(EMPTY), but(ANY)]), (0, 0)), (all_of([again(A), row(ANY, ANY)]), (97, 97)),
                            (but(again(ANY)), None), (times(A, 5, None), (97,) * 5),
                            (all_of([but(EMPTY), again(row(A, A)), again(times(A, 3, 3))]), (97,) * 6),
                            (row(some(EVERY_BYTE ^ 1), ANY), (1, 0))):
            self.assertEqual(shortest_in(tree), right, tree)

    def test_by_an_own_reading(self):
        found = {True: 0, False: 0}
        for tree in TREES:
            row_found = shortest_in(tree)
            right = shortest_of(tree, 3, {0, *SIGNS})
            if row_found is None or len(row_found) > 3:
                self.assertIsNone(right)
            else:
                self.assertEqual(row_found, right)
            if row_found is not None:
                self.assertIsInstance(row_found, tuple)
                self.assertTrue(is_in(tree, row_found))
            found[row_found is None] += 1
        self.assertGreater(min(found.values()), 20)

    def test_long_rows(self):
        self.assertEqual(shortest_in(times(A, 298, 298)), (97,) * 298)
        self.assertEqual(shortest_in(all_of([again(times(A, 16, 16)), again(times(A, 15, 15)), but(EMPTY)])), (97,) * 240)

    def test_the_empty_row_of_a_tree_of_which_more_is_left(self):
        for tree in HUGE:
            with self.assertRaises(BadThing):
                shortest_in(any_of([EMPTY, tree]))


class Within(unittest.TestCase):
    def test_by_hand(self):
        for one, other, right in ((A, ANY, True), (ANY, A, False), (NOTHING, NOTHING, True), (NOTHING, A, True),
                                  (A, NOTHING, False), (EMPTY, again(A), True), (again(A), EMPTY, False), (A, A, True),
                                  (A, B, False), (again(row(A, A)), again(A), True), (again(A), again(row(A, A)), False),
                                  (tree_of("ab|cd"), tree_of("(a|c)(b|d)"), True), (EVERY_ROW, again(ANY), True),
                                  (again(ANY), EVERY_ROW, True), (EVERY_ROW, but(A), False),
                                  (tree_of("a{3}"), but(tree_of(".*b.*")), True)):
            self.assertIs(is_within(one, other), right, (one, other))
            self.assertIs(is_within(but(other), but(one)), right)
            self.assertIs(is_within(all_of([one, other]), other), True)
            self.assertIs(is_within(one, any_of([one, other])), True)

    def test_bytes_that_stand_in_no_set(self):
        self.assertIs(is_within(ANY, some(EVERY_BYTE ^ (1 << 200))), False)
        self.assertIs(is_within(but(A), but(B)), False)

    def test_drawn_trees(self):
        dice = random.Random(282)
        found = {True: 0, False: 0}
        rows = {tree: rows_in(tree, 4) for tree in TREES}
        for _ in range(1500):
            one, other = dice.sample(TREES, 2)
            if dice.random() < 0.3:
                one = dice.choice([all_of([one, other]), row(one, again(other)), any_of([one, other]), but(one)])
                rows.setdefault(one, rows_in(one, 4))
            for first, second in ((one, other), (other, one)):
                told = is_within(first, second)
                found[told] += 1
                if told:
                    self.assertLessEqual(rows[first], rows[second])
                else:
                    # A row that shows it.
                    packet = shortest_in(all_of([first, but(second)]))
                    self.assertTrue(is_in(first, packet) and not is_in(second, packet))
            self.assertIs(is_alike(one, other), is_within(one, other) and is_within(other, one))
            self.assertIs(is_alike(other, one), is_alike(one, other))
        self.assertGreater(min(found.values()), 200)

    def test_alike(self):
        for one, other in (("a*", "(a*)*"), ("a a*", "a* a"), ("(a|b)*", "(a* b*)*"), ("!(!a & !b)", "a|b"),
                           ("(ab)*a", "a(ba)*"), (".* & !(.*a.*)", "[^a]*"), ("[]", "a & b"), ("!(.*) | a", "a & .*"),
                           ("a{2,4}", "aa|aaa|aaaa"), ("(a|ab)(c|bc)", "ac|abc|abbc")):
            one, other = tree_of(f"x ({one})"), tree_of(f"x ({other})")
            self.assertIs(is_alike(one, other), True, (one, other))
        for one, other in (("a*", "a+"), ("a{2,4}", "a{2,5}"), ("(a|b)*", "a*|b*"), (".", "[^\\xff]"), ("a", "[]")):
            one, other = tree_of(f"x ({one})"), tree_of(f"x ({other})")
            self.assertIs(is_alike(one, other), False, (one, other))

    def test_long_rings(self):
        # Several thousand pairs of what is left stand behind rows of a, and the row that tells is as long.
        ring = again(times(A, 90, 90))
        self.assertIs(is_within(ring, but(row(A, again(times(A, 91, 91))))), False)
        self.assertIs(is_within(ring, but(row(A, again(times(A, 93, 93))))), True)
        self.assertIs(is_within(ring, but(row(times(A, 3, 3), again(times(A, 93, 93))))), False)


class Smaller(unittest.TestCase):
    def check(self, tree):
        made = smaller(tree)
        self.assertTrue(is_in_form(made))
        self.assertLessEqual(size_of(made), size_of(tree))
        self.assertIs(is_alike(made, tree), True)
        return made

    def test_by_hand(self):
        for text, right in (("a|ab*", "ab*"), ("a* a*", "a*"), ("a? a* a?", "a*"), ("(a*|b)*", "[ab]*"), ("(a*b*)*", "[ab]*"),
                            ("(a?)*", "a*"), ("(a+)*", "a*"), ("a & .", "a"), ("(a|b) & .*a", "a"), ("aa & bb", "[]"),
                            ("!(aa) & b", "b"), ("a(b|b)|a[bc]|ab", "a[bc]"), (".* .*", ".*"), (".* !(a & b) .*", ".*"),
                            ("(aa|a)*", "a*"), ("!(!(a b|a b c*))", "a b c*"), ("ab|a(b & .)|b & a", "ab")):
            tree, right = tree_of(f"x ({text})"), tree_of(f"x ({right})")
            self.assertLessEqual(size_of(self.check(tree)), size_of(right), text)

    def test_nothing_and_every_row(self):
        for tree in (all_of([row(A, A), row(B, A)]), row(A, all_of([again(A), row(B, B)])), but(any_of([A, but(A)]))):
            self.assertEqual(self.check(tree), NOTHING)
        self.assertEqual(self.check(any_of([row(A, A), but(row(A, A))])), EVERY_ROW)
        self.assertEqual(self.check(all_of([again(A), again(B)])), EMPTY)

    def test_nothing_smaller(self):
        for tree in (NOTHING, EMPTY, EVERY_ROW, A, ANY, again(A), row(A, B), but(A), but(EMPTY), again(row(A, B)),
                     any_of([row(A, B), row(B, A)]), row(again(A), B), times(A, 20, 20)):
            self.assertEqual(self.check(tree), tree)

    def test_drawn_trees(self):
        many = 0
        for tree in TREES:
            made = self.check(tree)
            self.assertEqual(rows_in(made, 4), rows_in(tree, 4))
            many += size_of(made) < size_of(tree)
            # Nothing more is found.
            self.assertEqual(smaller(made), made)
        self.assertGreater(many, 50)

    def test_large_trees(self):
        dice = random.Random(283)
        words = ["".join(dice.choice("abc") for _ in range(5)) for _ in range(30)]
        for text in ("|".join(words), "a?" * 20 + "b", "(a|b)*a(a|b){7}", "!(.*aa.*) & !(.*bb.*) & .*c & .+",
                     "(a{20}){7}b", "(a{16})+|(a{15})+"):
            self.check(tree_of(text))

    def test_parts_of_which_more_is_left_than_of_the_whole(self):
        tree = all_of([HUGE[0], row(A, B)])
        self.assertLessEqual(many_left(tree), 300)
        self.assertGreater(many_left(parts_of(tree)[0]), 300)
        made = smaller(tree)
        self.assertLessEqual(size_of(made), size_of(tree))
        self.assertEqual(rows_in(made, 4), rows_in(tree, 4))


class TooMany(unittest.TestCase):
    def refuse(self, call, *arguments):
        with self.assertRaises(BadThing) as caught:
            call(*arguments)
        self.assertEqual(caught.exception.thing, 300)

    def test_more_are_left(self):
        for tree in HUGE:
            self.assertGreater(many_left(tree), 300)
            self.refuse(shortest_in, tree)
            self.refuse(smaller, tree)
            for other in (tree, A, but(tree), EVERY_ROW, HUGE[0]):
                self.refuse(is_alike, tree, other)
                self.refuse(is_alike, other, tree)
                self.refuse(is_within, tree, other)
                self.refuse(is_within, other, tree)

    def test_just_as_many(self):
        # The tree, those with fewer times, the empty row and nothing.
        tree = times(A, 298, 298)
        self.assertEqual(many_left(tree), 300)
        self.assertEqual((shortest_in(tree), smaller(tree), is_within(tree, tree)), ((97,) * 298, tree, True))
        self.assertEqual(many_left(times(A, 299, 299)), 301)

    def test_pairs_are_not_counted(self):
        one, other = again(times(A, 40, 40)), again(times(A, 39, 39))
        self.assertGreater(many_left(all_of([one, other])), 300)
        self.assertIs(is_within(one, other), False)
        self.assertIs(is_alike(one, again(times(A, 40, 40))), True)
