import random
import unittest

from beatscan.bookreader import read_book
from beatscan.derivatives import has_empty
from beatscan.errors import BadThing
from beatscan.meaning import told_in
from beatscan.tables import run, state_behind, step, table_of
from tests.rowsets import all_packets, random_trees

TEXTS = [
    "", "x: a", "x: []", "x: ^ []\ny: [] $", "x: .", "x: a b+   # one\ny: ^ (a|c){2} $",
    "x: ^ a\ny: a $\nz: ^ a $\nw: a", "x: a.{3}b", "x: (a|b)*a(a|b){2} $", "x: ^ !(.*aa.*) & .+ $\ny: aa",
    "x: [^a]a\ny: [\\x00-a]{2}", "x: !a & .\ny: ^ (ab|ba)+", "x: [\\x00]\ny: [\\xff] $",
    "word: ab | ba\nstart: ^ [a-b]{2,4} c\nstop: (.* & !(.* c .*)) b $",
]


class Form(unittest.TestCase):
    def check(self, table, many_rules):
        classes, rows, tells, ends = table
        self.assertIsInstance(table, tuple)
        self.assertEqual((len(table), len(classes)), (4, 256))
        many = max(classes) + 1
        self.assertEqual(set(classes), set(range(many)))
        self.assertEqual({len(rows), len(tells), len(ends)}, {len(rows)})
        for part in table:
            self.assertIsInstance(part, tuple)
        for ways, told in zip(rows, tells):
            self.assertEqual((type(ways), type(told), len(ways), len(told)), (tuple, tuple, many, many))
            self.assertTrue(all(0 <= state < len(rows) for state in ways))
            for rules in told:
                self.check_rules(rules, many_rules)
        for rules in ends:
            self.check_rules(rules, many_rules)

    def check_rules(self, rules, many_rules):
        self.assertIsInstance(rules, tuple)
        self.assertEqual(list(rules), sorted(set(rules)))
        self.assertTrue(all(0 <= rule < many_rules for rule in rules))

    def test_of_books(self):
        for text in TEXTS:
            book = read_book(text)
            self.check(table_of(book), len(book))

    def test_a_class_for_each_byte(self):
        self.check(table_of(read_book("x: " + " | ".join(f"\\x{byte:02x} a\\x{byte:02x}" for byte in range(40)))), 1)

    def test_equal_for_equal_books(self):
        for text in TEXTS:
            self.assertEqual(table_of(read_book(text)), table_of(read_book(text)))


class Run(unittest.TestCase):
    def test_the_example(self):
        book = read_book("x: a b+   # one\ny: ^ (a|c){2} $")
        self.assertEqual(run(table_of(book), (97, 98, 98)), ((), (0,), (0,), ()))
        self.assertEqual(state_behind(table_of(book), ()), 0)

    def test_fact_run_of_table_of_is_told_in(self):
        dice = random.Random(50)
        for text in TEXTS:
            book = read_book(text)
            table = table_of(book)
            packets = all_packets(4, (97, 98, 99)) + all_packets(2, (0, 96, 97, 98, 254, 255))
            packets += [tuple(dice.choices((97, 98, 99, 0), k=12)) for _ in range(40)]
            for packet in packets:
                self.assertEqual(run(table, packet), told_in(book, packet), (text, packet))

    def test_fact_for_trees_of_all_words(self):
        dice = random.Random(51)
        trees = [tree for tree in random_trees(52, 200, 3) if not has_empty(tree)]
        packets = all_packets(3) + [tuple(dice.choices((97, 98, 255, 7), k=8)) for _ in range(20)]
        many = 0
        for _ in range(60):
            book = tuple((f"r{at}", dice.random() < 0.5, dice.random() < 0.5, dice.choice(trees))
                         for at in range(dice.randint(1, 3)))
            try:
                table = table_of(book)
            except BadThing:
                continue
            many += 1
            for packet in packets:
                self.assertEqual(run(table, packet), told_in(book, packet), (book, packet))
        self.assertGreater(many, 40)

    def test_the_empty_row_is_never_told(self):
        book = (("x", False, False, ("again", ("some", 1 << 97))), ("y", True, True, ("again", ("some", 1 << 97))))
        for packet in all_packets(3):
            self.assertEqual(run(table_of(book), packet), told_in(book, packet))

    def test_packets_of_forty_bytes(self):
        table = table_of(read_book("x: a{3}\ny: b $"))
        self.assertEqual(run(table, (97,) * 39 + (98,)), ((), ()) + ((0,),) * 37 + ((), (1,)))

    def test_step_and_state_behind(self):
        dice = random.Random(53)
        for text in TEXTS:
            table = table_of(read_book(text))
            for _ in range(20):
                packet = tuple(dice.choices((97, 98, 99, 0, 255), k=7))
                state = 0
                told = []
                for at, byte in enumerate(packet):
                    self.assertEqual(state_behind(table, packet[:at]), state)
                    self.assertEqual(step(table, state, byte), (
                        table[1][state][table[0][byte]], table[2][state][table[0][byte]]))
                    state, rules = step(table, state, byte)
                    told.append(rules)
                self.assertEqual(state_behind(table, packet), state)
                self.assertEqual(run(table, packet), tuple(told) + (table[3][state],))


class Limit(unittest.TestCase):
    def check_too_many(self, text):
        with self.assertRaises(BadThing) as caught:
            table_of(read_book(text))
        self.assertEqual(caught.exception.thing, 300)

    def test_just_three_hundred(self):
        # The beginning, 149 behind a's, 149 behind b's, and what is left where nothing can come.
        table = table_of(read_book("x: ^ " + "a" * 149 + "\ny: ^ " + "b" * 149))
        self.assertEqual(run(table, (97,) * 149)[-2:], ((0,), ()))
        self.assertEqual(run(table, (98,) * 149)[-2:], ((1,), ()))

    def test_one_more(self):
        self.check_too_many("x: ^ " + "a" * 149 + "\ny: ^ " + "b" * 150)

    def test_tuples_count_not_trees(self):
        # So few trees each, but as many tuples as the product of their rounds, and more.
        text = "x: ^ (a{{{}}})*a\ny: ^ (a{{{}}})*a"
        table_of(read_book(text.format(16, 17)))
        self.check_too_many(text.format(17, 18))

    def test_many_states(self):
        table_of(read_book("x: a.{7}"))
        self.check_too_many("x: a.{8}")
        self.check_too_many("x: a.{20}\ny: b.{20}c")

    def test_far_fewer_than_the_tuples_by_hand(self):
        # Unlike ways to say the same fall into the one form, so that they count once.
        table_of(read_book("x: ^ (" + "|".join(["a{20}b"] * 5) + "){6}c"))
