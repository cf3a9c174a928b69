import unittest

from beatscan.bytesets import set_of
from beatscan.trees import again, all_of, any_of, but, row, size_of, some, times
from tests.rowsets import is_in_form, random_trees, rows_in, words_of, WORDS

NOTHING = ("nothing",)
EMPTY = ("empty",)
EVERY = ("not", NOTHING)
A = ("some", 1 << 97)
B = ("some", 1 << 98)
AB = ("some", 3 << 97)
ROW_AB = ("row", A, B)
AGAIN_A = ("again", A)
EACH = [NOTHING, EMPTY, EVERY, A, B, AB, ROW_AB, AGAIN_A, ("not", A), ("any of", (AGAIN_A, A)),
        ("all of", (AGAIN_A, A))]


class Some(unittest.TestCase):
    def test_a_set(self):
        self.assertEqual(some(set_of([97, 98])), AB)
        self.assertEqual(some(2 ** 256 - 1), ("some", 2 ** 256 - 1))

    def test_a_set_that_has_no_byte(self):
        self.assertEqual(some(0), NOTHING)


class Row(unittest.TestCase):
    def test_the_example(self):
        self.assertEqual(row(row(A, B), A)[2][0], "row")

    def test_two(self):
        self.assertEqual(row(A, B), ("row", A, B))

    def test_with_nothing_in_it(self):
        for tree in EACH:
            self.assertEqual(row(NOTHING, tree), NOTHING)
            self.assertEqual(row(tree, NOTHING), NOTHING)

    def test_the_empty_row_is_left_out(self):
        for tree in EACH:
            self.assertEqual(row(EMPTY, tree), tree)
            self.assertEqual(row(tree, EMPTY), tree)

    def test_the_first_part_is_no_row(self):
        self.assertEqual(row(row(A, B), AB), ("row", A, ("row", B, AB)))
        self.assertEqual(row(row(A, row(B, AB)), row(B, A)),
                         ("row", A, ("row", B, ("row", AB, ("row", B, A)))))
        self.assertEqual(row(row(A, B), AB), row(A, row(B, AB)))

    def test_every_row_stays(self):
        self.assertEqual(row(EVERY, A), ("row", EVERY, A))
        self.assertEqual(row(EVERY, EVERY), ("row", EVERY, EVERY))

    def test_long_rows(self):
        made = EMPTY
        for _ in range(1500):
            made = row(made, A) if made == EMPTY else row(A, made)
        self.assertEqual(size_of(row(made, made)), 5999)


class AnyOf(unittest.TestCase):
    def test_of_no_tree_and_of_one(self):
        self.assertEqual(any_of([]), NOTHING)
        for tree in EACH:
            self.assertEqual(any_of([tree]), tree)
            self.assertEqual(any_of((tree,)), tree)

    def test_nothing_is_left_out(self):
        self.assertEqual(any_of([NOTHING, NOTHING]), NOTHING)
        self.assertEqual(any_of([NOTHING, A, NOTHING]), A)
        self.assertEqual(any_of([ROW_AB, NOTHING, EMPTY]), ("any of", (EMPTY, ROW_AB)))

    def test_with_every_row_it_is_every_row(self):
        for tree in EACH:
            self.assertEqual(any_of([tree, EVERY]), EVERY)
            self.assertEqual(any_of([EVERY, tree]), EVERY)

    def test_the_same_part_twice(self):
        self.assertEqual(any_of([ROW_AB, ROW_AB]), ROW_AB)
        self.assertEqual(any_of([ROW_AB, EMPTY, ROW_AB]), ("any of", (EMPTY, ROW_AB)))

    def test_sets_made_one(self):
        self.assertEqual(any_of([A, B]), AB)
        self.assertEqual(any_of([A, EMPTY, B, AB]), ("any of", (EMPTY, AB)))

    def test_all_sets_are_not_every_row(self):
        half = set_of(range(128))
        self.assertEqual(any_of([some(half), some(half << 128)]), ("some", 2 ** 256 - 1))

    def test_parts_of_the_same_word_are_taken_apart(self):
        self.assertEqual(any_of([any_of([A, EMPTY]), any_of([B, ROW_AB])]), ("any of", (EMPTY, ROW_AB, AB)))
        self.assertEqual(any_of([any_of([EMPTY, ROW_AB]), ROW_AB]), ("any of", (EMPTY, ROW_AB)))

    def test_parts_of_the_other_word_stay(self):
        both = all_of([AGAIN_A, A])
        self.assertEqual(any_of([both, EMPTY]), ("any of", (("all of", (AGAIN_A, A)), EMPTY)))

    def test_ascending_by_str(self):
        trees = [B, EMPTY, ROW_AB, ("not", A), AGAIN_A, ("all of", (AGAIN_A, A))]
        made = any_of(trees)
        self.assertEqual(made, ("any of", tuple(sorted(trees, key=str))))
        self.assertEqual(any_of(trees[::-1]), made)

    def test_ascending_by_str_is_not_by_number(self):
        nine, ten = again(some(9)), again(some(10))
        self.assertEqual(any_of([nine, ten]), ("any of", (ten, nine)))

    def test_a_part_not_of_it_stays(self):
        self.assertEqual(any_of([ROW_AB, but(ROW_AB)]), ("any of", (("not", ROW_AB), ROW_AB)))


class AllOf(unittest.TestCase):
    def test_the_example(self):
        self.assertEqual(all_of([A, B]), NOTHING)

    def test_of_no_tree_and_of_one(self):
        self.assertEqual(all_of([]), EVERY)
        for tree in EACH:
            self.assertEqual(all_of([tree]), tree)

    def test_every_row_is_left_out(self):
        self.assertEqual(all_of([EVERY, EVERY]), EVERY)
        self.assertEqual(all_of([EVERY, A, EVERY]), A)
        self.assertEqual(all_of([AGAIN_A, EVERY, ROW_AB]), ("all of", (AGAIN_A, ROW_AB)))

    def test_with_nothing_it_is_nothing(self):
        for tree in EACH:
            self.assertEqual(all_of([tree, NOTHING]), NOTHING)
            self.assertEqual(all_of([NOTHING, tree]), NOTHING)

    def test_the_same_part_twice(self):
        self.assertEqual(all_of([AGAIN_A, AGAIN_A]), AGAIN_A)
        self.assertEqual(all_of([AGAIN_A, ROW_AB, AGAIN_A]), ("all of", (AGAIN_A, ROW_AB)))

    def test_sets_made_one(self):
        self.assertEqual(all_of([AB, A]), A)
        self.assertEqual(all_of([AB, AGAIN_A, A]), ("all of", (AGAIN_A, A)))

    def test_sets_that_do_not_meet(self):
        self.assertEqual(all_of([A, AGAIN_A, B]), NOTHING)
        self.assertEqual(all_of([all_of([A, AGAIN_A]), all_of([B, ROW_AB])]), NOTHING)

    def test_parts_of_the_same_word_are_taken_apart(self):
        self.assertEqual(all_of([all_of([AB, AGAIN_A]), all_of([A, ("not", EMPTY)])]),
                         ("all of", (AGAIN_A, ("not", EMPTY), A)))

    def test_parts_of_the_other_word_stay(self):
        self.assertEqual(all_of([any_of([EMPTY, A]), AGAIN_A]), ("all of", (AGAIN_A, ("any of", (EMPTY, A)))))

    def test_ascending_by_str(self):
        trees = [B, ROW_AB, ("not", A), AGAIN_A, ("any of", (EMPTY, A))]
        made = all_of(trees)
        self.assertEqual(made, ("all of", tuple(sorted(trees, key=str))))
        self.assertEqual(all_of(trees[::-1]), made)

    def test_a_set_and_the_empty_row_stay(self):
        self.assertEqual(all_of([A, EMPTY]), ("all of", (EMPTY, A)))


class ButAndAgain(unittest.TestCase):
    def test_but(self):
        self.assertEqual(but(A), ("not", A))
        self.assertEqual(but(NOTHING), EVERY)
        self.assertEqual(but(EMPTY), ("not", EMPTY))

    def test_not_of_not(self):
        self.assertEqual(but(EVERY), NOTHING)
        for tree in EACH:
            self.assertEqual(but(but(tree)), tree)

    def test_again(self):
        self.assertEqual(again(A), ("again", A))
        self.assertEqual(again(ROW_AB), ("again", ROW_AB))
        self.assertEqual(again(EVERY), ("again", EVERY))

    def test_again_of_nothing_and_of_the_empty_row(self):
        self.assertEqual(again(NOTHING), EMPTY)
        self.assertEqual(again(EMPTY), EMPTY)

    def test_again_of_again(self):
        self.assertEqual(again(again(A)), ("again", A))


class Times(unittest.TestCase):
    def test_most_equal_to_least(self):
        self.assertEqual(times(A, 0, 0), EMPTY)
        self.assertEqual(times(A, 1, 1), A)
        self.assertEqual(times(A, 2, 2), ("row", A, A))
        self.assertEqual(times(ROW_AB, 2, 2), ("row", A, ("row", B, ("row", A, B))))

    def test_least_0(self):
        self.assertEqual(times(A, 0, 1), ("any of", (EMPTY, A)))
        self.assertEqual(times(A, 0, 2), ("any of", (EMPTY, ("row", A, ("any of", (EMPTY, A))))))

    def test_least_and_most(self):
        self.assertEqual(times(A, 1, 2), ("row", A, ("any of", (EMPTY, A))))
        self.assertEqual(times(A, 2, 4),
                         ("row", A, ("row", A, ("any of", (EMPTY, ("row", A, ("any of", (EMPTY, A))))))))

    def test_most_none(self):
        self.assertEqual(times(A, 0, None), ("again", A))
        self.assertEqual(times(A, 1, None), ("row", A, ("again", A)))
        self.assertEqual(times(A, 2, None), ("row", A, ("row", A, ("again", A))))

    def test_of_nothing_and_of_the_empty_row(self):
        self.assertEqual([times(NOTHING, 0, 3), times(NOTHING, 0, None), times(NOTHING, 2, 3)],
                         [EMPTY, EMPTY, NOTHING])
        self.assertEqual([times(EMPTY, 0, 3), times(EMPTY, 4, None), times(EMPTY, 2, 3)], [EMPTY] * 3)

    def test_rows(self):
        for least, most in [(0, 0), (0, 3), (1, 1), (1, 3), (2, 4), (3, 3)]:
            wanted = {(97, 98) * many for many in range(least, most + 1)}
            self.assertEqual(rows_in(times(ROW_AB, least, most), 8, (97, 98)), wanted)
        self.assertEqual(rows_in(times(ROW_AB, 2, None), 8, (97, 98)), {(97, 98) * many for many in (2, 3, 4)})


class Form(unittest.TestCase):
    def test_what_the_makers_return_is_in_the_one_form(self):
        seen = set()
        for tree in EACH + random_trees(4, 400, 4):
            self.assertTrue(is_in_form(tree), tree)
            seen |= words_of(tree)
        self.assertEqual(seen, set(WORDS))

    def test_of_pairs(self):
        trees = EACH + random_trees(5, 25, 3)
        for one in trees:
            for other in trees:
                for made in (row(one, other), any_of([one, other]), all_of([one, other]), but(one), again(one),
                             times(one, 1, 2), times(one, 0, None)):
                    self.assertTrue(is_in_form(made), made)

    def test_the_makers_mean_what_they_say(self):
        everything = rows_in(EVERY, 3)
        trees = EACH + random_trees(6, 12, 2)
        for one in trees:
            first = rows_in(one, 3)
            self.assertEqual(rows_in(but(one), 3), everything - first)
            for other in trees:
                second = rows_in(other, 3)
                self.assertEqual(rows_in(any_of([one, other]), 3), first | second)
                self.assertEqual(rows_in(all_of([one, other]), 3), first & second)
                wanted = {a + b for a in first for b in second if len(a + b) <= 3}
                self.assertEqual(rows_in(row(one, other), 3), wanted)

    def test_at_once_or_one_after_the_other_is_the_same(self):
        trees = random_trees(7, 60, 3)
        for at in range(0, 60, 3):
            one, two, three = trees[at:at + 3]
            self.assertEqual(any_of([one, two, three]), any_of([one, any_of([two, three])]))
            self.assertEqual(all_of([one, two, three]), all_of([all_of([one, two]), three]))

    def test_arguments_are_not_changed(self):
        trees = [B, A, any_of([EMPTY, ROW_AB])]
        any_of(trees)
        all_of(trees)
        self.assertEqual(trees, [B, A, any_of([EMPTY, ROW_AB])])

    def test_size_of(self):
        self.assertEqual([size_of(tree) for tree in EACH], [1, 1, 2, 1, 1, 1, 3, 2, 2, 4, 4])
