import itertools
import random
import unittest

from beatscan.bookreader import read_book
from beatscan.derivatives import has_empty
from beatscan.errors import BadThing
from beatscan.meaning import told_in
from beatscan.same import apart_packet
from tests.books import TEXTS
from tests.rowsets import all_packets, random_trees

EXAMPLE = read_book("x: a b+   # one\ny: ^ (a|c){2} $")
SAME = [
    ("x: a|b", "x: [ab]"), ("x: a+", "x: a"), ("x: aa*", "x: a+"), ("x: .*a", "x: a"), ("x: ^ .*a", "x: a"),
    ("x: a\ny: b", "y: b\nx: a"), ("x: a\ny: b\nz: c $", "z: c $\nx: a\ny: b"), ("x: a\ny: []", "x: a"),
    ("x: ^ []", "y: [] $"), ("x: [a-a]", "x: \\x61"), ("x: ^ a*b", "x: ^ b|a+b"), ("x: !(!a|!a)", "x: a"),
    ("", "x: []"),
]


def names_told(book, packet):
    return [sorted(book[rule][0] for rule in rules) for rules in told_in(book, packet)]


def least_apart(one, other, most, signs):
    """The shortest, then least packet of a few signs of which two books tell unlike names, by their meaning."""
    for many in range(most + 1):
        for packet in itertools.product(sorted(signs), repeat=many):
            if names_told(one, packet) != names_told(other, packet):
                return packet
    return None


class Same(unittest.TestCase):
    def check(self, one, other):
        packet = apart_packet(one, other)
        self.assertEqual(apart_packet(other, one), packet)
        if packet is not None:
            self.assertIsInstance(packet, tuple)
            self.assertNotEqual(names_told(one, packet), names_told(other, packet))
        return packet

    def test_the_example(self):
        book = EXAMPLE
        self.assertIsNone(apart_packet(book, book[::-1]))
        self.assertEqual(apart_packet(book, book[:1]), (97, 97))
        self.assertIsNone(apart_packet(read_book("x: a|b"), read_book("x: [ab]")))

    def test_books_that_tell_the_same(self):
        for one, other in SAME:
            self.assertIsNone(self.check(read_book(one), read_book(other)), (one, other))

    def test_rules_in_all_orders(self):
        for text in TEXTS:
            book = read_book(text)
            for order in itertools.islice(itertools.permutations(book), 24):
                self.assertIsNone(self.check(book, order))

    def test_by_hand(self):
        for one, other, packet in [
            ("x: a", "x: b", (97,)), ("x: a", "y: a", (97,)), ("x: a", "x: ^ a", (0, 97)), ("x: a", "x: a $", (97,)),
            ("x: ^ a", "x: ^ a $", (97,)), ("x: .", "x: [^\\xff]", (255,)), ("x: .", "x: []", (0,)), ("", "x: .", (0,)),
            ("x: ^ a{20}", "x: ^ a{19}", (97,) * 19), ("x: ab", "x: ab|c", (99,)), ("x: a\ny: b", "x: b\ny: a", (97,)),
            ("x: a\ny: a", "x: a", (97,)), ("x: ^ a $\ny: ^ a", "y: ^ a $\nx: ^ a", (97,)),
            # Behind 98 a step tells them apart, behind 97 the end does; the least of one length counts.
            ("x: ^ ba\ny: ^ ab $", "", (97, 98)), ("x: ^ ab\ny: ^ aa $", "", (97, 97)), ("y: ^ b $\nx: ^ aa", "", (98,)),
            ("x: ^ a . c", "x: ^ a b c", (97, 0, 99)),
        ]:
            self.assertEqual(self.check(read_book(one), read_book(other)), packet, (one, other))

    def test_the_end_and_a_step_are_not_the_same(self):
        self.assertEqual(self.check(read_book("x: ab"), read_book("x: ab $")), (97, 98))

    def test_is_first_and_is_last_changed(self):
        for text in TEXTS:
            book = read_book(text)
            for at, (name, is_first, is_last, tree) in enumerate(book):
                for flags in ((not is_first, is_last), (is_first, not is_last)):
                    other = book[:at] + ((name, *flags, tree),) + book[at + 1:]
                    packet = self.check(book, other)
                    self.assertEqual(packet, least_apart(book, other, 2, (0, 97, 98, 99)) if packet is None else packet)

    def test_one_rule_left_out(self):
        for text in TEXTS:
            book = read_book(text)
            for at in range(len(book)):
                other = book[:at] + book[at + 1:]
                packet = self.check(book, other)
                matches = any(at in rules for way in all_packets(3, (97, 98, 99)) for rules in told_in(book, way))
                self.assertTrue(packet is not None or not matches)

    def test_other_names(self):
        for text in TEXTS:
            book = read_book(text)
            other = tuple((name + "_", *rest) for name, *rest in book)
            packet = self.check(book, other)
            self.assertEqual(packet is None, text in ("", "x: []"))

    def test_names_in_another_order_at_one_place(self):
        # Rules 0 and 1 of both books, and the names at their places are changed round where only one matches.
        self.assertIsNone(self.check(read_book("x: a\ny: a"), read_book("y: a\nx: a")))
        self.assertEqual(self.check(read_book("x: a\ny: a|b"), read_book("y: a\nx: a|b")), (98,))

    def test_shortest_and_least(self):
        dice = random.Random(80)
        trees = [tree for tree in random_trees(81, 200, 2) if not has_empty(tree)]
        found = {True: 0, False: 0}
        for _ in range(150):
            flags = (dice.random() < 0.5, dice.random() < 0.5)
            one, other = ((("x", *flags, dice.choice(trees)), ("y", True, True, dice.choice(trees))) for _ in range(2))
            packet = self.check(one, other)
            found[packet is None] += 1
            # A byte of none of the sets does what 0 does.
            right = least_apart(one, other, 3, (0, 97, 98, 255))
            if packet is None or len(packet) > 3:
                self.assertIsNone(right)
            else:
                self.assertEqual(packet, right)
        self.assertGreater(found[False], 50)

    def test_too_many_states(self):
        large = read_book("x: a.{9}b")
        for one, other in ((large, EXAMPLE), (EXAMPLE, large), (large, large)):
            with self.assertRaises(BadThing) as caught:
                apart_packet(one, other)
            self.assertEqual(caught.exception.thing, 300)
