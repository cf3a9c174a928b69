import unittest

from beatscan.bytesets import set_of
from beatscan.derivatives import derivative, has_empty
from beatscan.trees import again, all_of, any_of, but, row, some, times
from tests.rowsets import SIGNS, WORDS, all_packets, is_in_form, random_trees, rows_in, words_of

NOTHING = ("nothing",)
EMPTY = ("empty",)
EVERY = ("not", NOTHING)
A = some(set_of([97]))
B = some(set_of([98]))
C = some(set_of([99]))


class HasEmpty(unittest.TestCase):
    def test_each_word(self):
        for tree, answer in [(NOTHING, False), (EMPTY, True), (A, False), (EVERY, True), (again(A), True),
                             (but(EMPTY), False), (but(A), True), (row(A, again(B)), False),
                             (row(again(A), B), False), (row(again(A), again(B)), True),
                             (row(again(A), row(B, again(A))), False),
                             (any_of([A, EMPTY]), True), (any_of([A, row(A, B)]), False),
                             (all_of([again(A), again(B)]), True), (all_of([again(A), but(EMPTY)]), False)]:
            self.assertIs(has_empty(tree), answer, tree)

    def test_it_is_whether_the_empty_row_is_in_a_tree(self):
        for tree in random_trees(10, 300, 3):
            self.assertIs(has_empty(tree), () in rows_in(tree, 0), tree)


class Derivative(unittest.TestCase):
    def test_the_example(self):
        self.assertEqual(derivative(row(A, B), 97), B)
        self.assertEqual(derivative(row(A, B), 98), NOTHING)
        self.assertIs(has_empty(again(A)), True)
        self.assertEqual(derivative(again(A), 97), again(A))

    def test_of_nothing_and_of_the_empty_row(self):
        self.assertEqual(derivative(NOTHING, 97), NOTHING)
        self.assertEqual(derivative(EMPTY, 97), NOTHING)

    def test_of_a_set(self):
        for byte in (0, 97, 255):
            self.assertEqual(derivative(some(set_of([0, 97, 255])), byte), EMPTY)
        for byte in (1, 96, 254):
            self.assertEqual(derivative(some(set_of([0, 97, 255])), byte), NOTHING)

    def test_of_a_row(self):
        self.assertEqual(derivative(row(row(A, B), C), 97), row(B, C))
        self.assertEqual(derivative(row(again(A), B), 97), row(again(A), B))
        self.assertEqual(derivative(row(again(A), B), 98), EMPTY)

    def test_of_a_row_whose_first_part_has_the_empty_row(self):
        tree = row(any_of([EMPTY, row(A, B)]), row(A, C))
        self.assertEqual(derivative(tree, 97), any_of([row(B, row(A, C)), C]))
        tree = row(again(A), row(again(B), row(again(A), C)))
        self.assertEqual(derivative(tree, 97), any_of([tree, row(again(A), C)]))
        self.assertEqual(derivative(tree, 99), EMPTY)

    def test_of_any_of_all_of_and_not(self):
        one, two = row(A, B), row(A, C)
        self.assertEqual(derivative(any_of([one, two]), 97), some(set_of([98, 99])))
        self.assertEqual(derivative(all_of([one, row(A, again(B))]), 97), all_of([B, again(B)]))
        self.assertEqual(derivative(all_of([one, two]), 97), NOTHING)
        self.assertEqual(derivative(but(one), 97), but(B))
        self.assertEqual(derivative(but(one), 98), EVERY)
        self.assertEqual(derivative(EVERY, 5), EVERY)

    def test_of_again(self):
        tree = again(row(A, B))
        self.assertEqual(derivative(tree, 97), row(B, tree))
        self.assertEqual(derivative(tree, 98), NOTHING)

    def test_of_times(self):
        self.assertEqual(derivative(times(A, 2, 3), 97), times(A, 1, 2))

    def test_what_is_left_is_in_the_one_form(self):
        for tree in random_trees(11, 300, 3):
            for byte in SIGNS:
                self.assertTrue(is_in_form(derivative(tree, byte)), (tree, byte))

    def test_what_is_left_is_right(self):
        seen = set()
        for tree in random_trees(12, 200, 3):
            seen |= words_of(tree)
            rows = rows_in(tree, 3)
            for byte in SIGNS:
                self.assertEqual(rows_in(derivative(tree, byte), 2), {r[1:] for r in rows if r[:1] == (byte,)})
        self.assertEqual(seen, set(WORDS))

    def test_fact_a_row_is_in_a_tree_just_if_the_empty_row_is_in_what_is_left(self):
        packets = all_packets(4)
        for tree in random_trees(13, 60, 4):
            rows = rows_in(tree, 4)
            left = {(): tree}
            for packet in packets[1:]:
                left[packet] = derivative(left[packet[:-1]], packet[-1])
            for packet in packets:
                self.assertIs(has_empty(left[packet]), packet in rows, (tree, packet))

    def test_finitely_many_are_left(self):
        for tree in random_trees(14, 40, 2):
            seen = {str(tree)}
            waiting = [tree]
            while waiting:
                one = waiting.pop()
                for byte in SIGNS + (1,):
                    left = derivative(one, byte)
                    if str(left) not in seen:
                        seen.add(str(left))
                        waiting.append(left)
                self.assertLess(len(seen), 500)

    def test_long_rows_and_deep_trees(self):
        tree = EMPTY
        for _ in range(150):
            tree = row(again(A), tree)
        self.assertIs(has_empty(tree), True)
        self.assertEqual(derivative(tree, 98), NOTHING)
        deep = A
        for _ in range(60):
            deep = again(any_of([EMPTY, row(deep, B)]))
        self.assertEqual(derivative(deep, 99), NOTHING)
