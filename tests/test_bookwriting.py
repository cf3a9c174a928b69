import random
import unittest

from beatscan.bookreader import read_book
from beatscan.bookwriting import book_text
from beatscan.bytesets import range_set, set_of, without
from beatscan.derivatives import has_empty
from beatscan.trees import again, all_of, any_of, but, row, size_of, some
from tests.rowsets import WORDS, random_trees, words_of

NOTHING = ("nothing",)
EMPTY = ("empty",)
A = some(set_of([97]))
B = some(set_of([98]))


class Writing(unittest.TestCase):
    def check(self, book):
        text = book_text(book)
        self.assertIsInstance(text, str)
        self.assertEqual(read_book(text), book, text)

    def check_tree(self, tree):
        """As the tree of a rule; in a row with a byte, if the empty row is in it."""
        if has_empty(tree):
            tree = row(A, tree)
        self.check((("x", False, False, tree),))

    def test_the_example(self):
        self.check(read_book("x: a b+   # one\ny: ^ (a|c){2} $"))

    def test_no_rule(self):
        self.assertEqual(read_book(book_text(())), ())

    def test_first_and_last(self):
        self.check(tuple((name, is_first, is_last, A) for name, is_first, is_last in [
            ("x", False, False), ("_9", True, False), ("Yes", False, True), ("both_1", True, True)]))

    def test_eight_rules(self):
        self.check(tuple((f"r{at}", at % 2 == 0, at % 3 == 0, row(A, some(1 << at))) for at in range(8)))

    def test_each_byte(self):
        for byte in range(256):
            self.check_tree(some(set_of([byte])))
            self.check_tree(some(without(set_of([byte]))))

    def test_sets_of_many_kinds(self):
        dice = random.Random(30)
        sets = [2 ** 256 - 1, range_set(0, 127), range_set(128, 255), set_of([0, 255]), set_of(range(0, 256, 2)),
                set_of([ord(letter) for letter in "\\]^-%[ .$#"]), range_set(32, 47), range_set(91, 96)]
        for _ in range(60):
            first = dice.randrange(256)
            sets.append(range_set(first, dice.randrange(first, 256)))
            sets.append(dice.getrandbits(256))
            sets.append(set_of(dice.sample(range(256), dice.randint(1, 6))))
        for chosen in sets:
            self.check_tree(some(chosen))
            self.check_tree(row(again(some(chosen)), A))

    def test_each_word(self):
        star = again(A)
        for tree in [NOTHING, EMPTY, A, but(NOTHING), but(EMPTY), but(A), but(row(A, B)), but(star), again(but(A)),
                     again(row(A, B)), again(any_of([A, EMPTY])), again(all_of([A, star])), again(but(again(B))),
                     row(but(A), B), row(any_of([A, EMPTY]), B), row(all_of([star, but(B)]), row(star, B)),
                     any_of([EMPTY, row(A, B), star, but(B)]), all_of([but(A), but(B), star]),
                     any_of([all_of([star, but(A)]), row(A, B)]), all_of([any_of([row(A, B), EMPTY]), star]),
                     but(any_of([EMPTY, row(A, A)])), but(all_of([star, but(A)])), row(A, row(B, row(A, B))),
                     but(row(but(A), but(EMPTY))), row(but(NOTHING), again(but(NOTHING)))]:
            self.check_tree(tree)

    def test_books_of_all_words(self):
        trees = [tree for tree in random_trees(31, 900, 4) if size_of(tree) <= 25]
        self.assertGreater(len(trees), 400)
        seen = set()
        for tree in trees:
            seen |= words_of(tree)
            self.check_tree(tree)
        self.assertEqual(seen, set(WORDS))

    def test_books_of_several_rules(self):
        dice = random.Random(32)
        trees = [tree for tree in random_trees(33, 400, 3) if size_of(tree) <= 25 and not has_empty(tree)]
        for _ in range(60):
            self.check(tuple((f"r{at}", dice.random() < 0.5, dice.random() < 0.5, dice.choice(trees))
                             for at in range(dice.randint(1, 8))))

    def test_deep_trees(self):
        deep = again(A)
        for _ in range(11):
            deep = again(but(deep))
        self.assertEqual(size_of(deep), 24)
        self.check_tree(deep)
        deep = A
        for _ in range(8):
            deep = but(row(deep, B))
        self.assertEqual(size_of(deep), 25)
        self.check_tree(deep)
        deep = A
        for at in range(8):
            deep = any_of([row(A, B), again(deep)]) if at % 2 else all_of([but(B), again(deep)])
        self.check_tree(deep)
