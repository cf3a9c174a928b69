import random
import unittest

from beatscan.bookreader import read_book
from beatscan.bytesets import set_of
from beatscan.meaning import is_in, told_in
from beatscan.trees import again, all_of, any_of, but, row, some
from tests.rowsets import WORDS, all_packets, random_trees, rows_in, words_of

NOTHING = ("nothing",)
EMPTY = ("empty",)
A = some(set_of([97]))
B = some(set_of([98]))


def told_by_rows(book, packet):
    """As told_in, by the sets of rows."""
    told = [[] for _ in range(len(packet) + 1)]
    for number, (_, is_first, is_last, tree) in enumerate(book):
        rows = rows_in(tree, len(packet))
        for end in range(1, len(packet) + 1):
            if any(packet[start:end] in rows for start in range(1 if is_first else end)):
                if not is_last:
                    told[end - 1].append(number)
                elif end == len(packet):
                    told[-1].append(number)
    return tuple(tuple(rules) for rules in told)


class IsIn(unittest.TestCase):
    def test_the_example(self):
        self.assertIs(is_in(again(row(A, B)), (97, 98, 97, 98)), True)

    def test_each_word(self):
        star = again(A)
        for tree, packets in [
                (NOTHING, []), (EMPTY, [()]), (A, [(97,)]), (row(A, B), [(97, 98)]),
                (any_of([A, row(A, B)]), [(97,), (97, 98)]), (all_of([star, but(A)]), [(), (97, 97)]),
                (but(star), [(98,), (97, 98), (98, 97), (98, 98)]), (star, [(), (97,), (97, 97)]),
                (but(NOTHING), [(), (97,), (98,), (97, 97), (97, 98), (98, 97), (98, 98)]),
                (again(row(A, B)), [(), (97, 98)]), (row(star, star), [(), (97,), (97, 97)])]:
            for packet in all_packets(2, (97, 98)):
                self.assertIs(is_in(tree, packet), packet in packets, (tree, packet))

    def test_sets_by_their_edges(self):
        tree = some(set_of([0, 255]))
        self.assertEqual([byte for byte in range(256) if is_in(tree, (byte,))], [0, 255])

    def test_trees_of_all_words(self):
        packets = all_packets(4)
        seen = set()
        for tree in random_trees(40, 150, 4):
            seen |= words_of(tree)
            rows = rows_in(tree, 4)
            for packet in packets:
                self.assertIs(is_in(tree, packet), packet in rows, (tree, packet))
        self.assertEqual(seen, set(WORDS))

    def test_packets_of_twelve_bytes(self):
        tree = read_book("x: (a|aa|b)*b(a*b*)*a")[0][3]
        self.assertIs(is_in(tree, (97,) * 5 + (98,) * 6 + (97,)), True)
        self.assertIs(is_in(tree, (97,) * 11 + (98,)), False)

    def test_long_rows(self):
        tree = read_book("x: " + "a?" * 60 + "b")[0][3]
        self.assertIs(is_in(tree, (97,) * 40 + (98,)), True)
        self.assertIs(is_in(tree, (97,) * 40), False)


class ToldIn(unittest.TestCase):
    def test_the_example(self):
        book = read_book("x: a b+   # one\ny: ^ (a|c){2} $")
        self.assertEqual(told_in(book, (97, 98, 98)), ((), (0,), (0,), ()))
        self.assertEqual(told_in(book, (97, 99)), ((), (), (1,)))

    def test_the_book_of_three_rules(self):
        book = read_book("word:  cat | dog\nstart: ^ [0-9]{2,4} x\nstop:  (.* & !(.* z .*)) q $")
        self.assertEqual(told_in(book, tuple(b"12xcatq")), ((), (), (1,), (), (), (0,), (), (2,)))
        self.assertEqual(told_in(book, tuple(b"a12xdog")), ((), (), (), (), (), (), (0,), ()))
        # A match may begin behind the z, so only a q right at the start of what is left need be seen.
        self.assertEqual(told_in(book, tuple(b"zq")), ((), (), (2,)))

    def test_the_packet_of_no_byte(self):
        self.assertEqual(told_in(read_book("x: a\ny: ^ b $"), ()), ((),))
        self.assertEqual(told_in((), ()), ((),))

    def test_no_rule(self):
        self.assertEqual(told_in((), (1, 2)), ((), (), ()))

    def test_first_last_both_or_none(self):
        book = read_book("none: a\nfirst: ^ a\nlast: a $\nboth: ^ a $")
        self.assertEqual(told_in(book, (97,)), ((0, 1), (2, 3)))
        self.assertEqual(told_in(book, (97, 97)), ((0, 1), (0,), (2,)))
        self.assertEqual(told_in(book, (98, 97)), ((), (0,), (2,)))
        self.assertEqual(told_in(book, (97, 98)), ((0, 1), (), ()))

    def test_rules_in_ascending_order(self):
        book = read_book("\n".join(f"r{at}: {pattern}" for at, pattern in enumerate(
            ["a", "[ab]", ".a", "a $", "^ a*a", "b", ".", "a+ $"])))
        self.assertEqual(told_in(book, (97, 97)), ((0, 1, 4, 6), (0, 1, 2, 4, 6), (3, 7)))

    def test_rows_are_told_once_and_may_lie_over_one_another(self):
        book = read_book("x: a+\ny: aa|a")
        self.assertEqual(told_in(book, (97, 97, 97)), ((0, 1), (0, 1), (0, 1), ()))

    def test_by_the_rows_of_trees(self):
        dice = random.Random(41)
        trees = random_trees(42, 120, 3)
        packets = all_packets(3) + [tuple(dice.choice((97, 98, 255)) for _ in range(4)) for _ in range(6)]
        for _ in range(40):
            book = tuple((f"r{at}", dice.random() < 0.5, dice.random() < 0.5, dice.choice(trees))
                         for at in range(dice.randint(1, 4)))
            for packet in packets:
                self.assertEqual(told_in(book, packet), told_by_rows(book, packet), (book, packet))
