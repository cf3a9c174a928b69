import random
import unittest

from beatscan.beats import are_beats, cut_packet, mixed, packets_in
from beatscan.bookreader import read_book
from beatscan.bookwriting import book_text
from beatscan.clocks import fed, most_clocks
from beatscan.codes import state_bits
from beatscan.derivatives import has_empty
from beatscan.errors import BadBook, BadText, BadThing
from beatscan.least import least
from beatscan.meaning import told_in
from beatscan.papers import is_paper, told_from
from beatscan.tables import run, state_behind, table_of
from beatscan.whole import clocked_for, gates_for, least_table, named_reports
from tests.books import EXAMPLE, FIRST, TEXTS, random_beats, random_packet
from tests.rowsets import all_packets, random_trees
from tests.test_clocks import readers

# The book of three rules in [1], word for word.
BOOK_OF_1 = """word:  cat | dog            # anywhere
start: ^ [0-9]{2,4} x       # only from the packet's beginning
stop:  (.* & !(.* z .*)) q $  # only at its end, and no z ahead"""
SIGNS_OF_1 = tuple(b"catdogxqz019")


def told_at_places(book, beats):
    """The reports that the plain meaning of a book gives for the packets in beats, at their places."""
    found = []
    for flow, packet, end, places in packets_in(beats):
        told = told_in(book, packet)
        found += [(*place, flow, rules) for place, rules in zip(places, told) if rules]
        found += [(*end, flow, told[-1])] if end and told[-1] else []
    return [(at, flow, lane, rules) for at, lane, flow, rules in sorted(found)]


def random_books(seed, many):
    dice = random.Random(seed)
    trees = [tree for tree in random_trees(seed, 300, 2) if not has_empty(tree)]
    found = []
    while len(found) < many:
        book = tuple((f"r{at}", dice.random() < 0.4, dice.random() < 0.4, dice.choice(trees))
                     for at in range(dice.randint(1, 4)))
        try:
            if len(least(table_of(book))[1]) <= 30:
                found.append(book)
        except BadThing:
            pass
    return found


def cut_and_mixed(dice, packets, width, flows):
    """Beats of packets, several of one flow behind one another, cut and mixed in some way."""
    rows = [[] for _ in range(flows)]
    for packet in packets:
        flow = dice.randrange(flows)
        sizes = []
        while sum(sizes) < len(packet):
            sizes.append(dice.randint(0, width))
        cut = cut_packet(flow, packet, sizes)
        if dice.random() < 0.2:
            # Given up: its end is left out, and the next one begins.
            cut = cut[:-1]
        rows[flow] += cut
    return mixed(rows, [dice.randint(0, 9) for _ in range(40)])


class Whole(unittest.TestCase):
    def check(self, text, beats, width, fan, size, readies):
        book = read_book(text)
        self.assertTrue(are_beats(beats, width))
        right = told_at_places(book, beats)
        self.assertEqual(gates_for(text, width, fan).scan(beats), right)
        machine = clocked_for(text, width, size)
        self.assertLessEqual(fed(machine, beats, readies), most_clocks(width, beats, readies))
        self.assertEqual(machine.out, right)
        return right

    def test_the_example(self):
        book = read_book(EXAMPLE)
        beats = mixed([cut_packet(7, (97, 98), (1,)), cut_packet(8, (99, 97), ())], (0, 1, 0))
        self.assertEqual(named_reports(book, gates_for(book_text(book), 2, 3).scan(beats)),
                         [(1, 8, 2, ("y",)), (2, 7, 0, ("x",))])
        self.assertEqual(least_table(book_text(book))[1], least(table_of(book)))

    def test_the_book_of_1(self):
        book, table, paper = least_table(BOOK_OF_1)
        self.assertEqual(book, read_book(FIRST))
        self.assertEqual([rule[:3] for rule in book],
                         [("word", False, False), ("start", True, False), ("stop", False, True)])
        self.assertIs(is_paper(table, paper), True)
        for packet, right in ((b"cat", ((), (), (0,), ())), (b"12xcatq", ((), (), (1,), (), (), (0,), (), (2,))),
                              (b"12345x", ((),) * 7), (b"1x", ((),) * 3), (b"0123x", ((), (), (), (), (1,), ())),
                              (b"a12x", ((),) * 5), (b"dogdogq", ((), (), (0,), (), (), (0,), (), (2,))),
                              # What is ahead of q may begin behind a z.
                              (b"zq", ((), (), (2,))), (b"q", ((), (2,))), (b"qz", ((),) * 3), (b"", ((),))):
            self.assertEqual(told_in(book, tuple(packet)), right, packet)
            self.assertEqual(run(table, tuple(packet)), right, packet)
        dice = random.Random(290)
        many = 0
        for width in (1, 2, 3, 4):
            for fan in (3, 4, 5, 6):
                packets = [random_packet(dice, 9, SIGNS_OF_1) + tuple(dice.choice((b"", b"cat", b"dogq", b"q")))
                           for _ in range(5)] + [tuple(b"12x"), tuple(b"999xcat")]
                beats = cut_and_mixed(dice, packets, width, 3)
                many += len(self.check(BOOK_OF_1, beats, width, fan, width + dice.randint(1, 9),
                                       dice.choice(readers(dice, 30))))
        self.assertGreater(many, 100)

    def test_books_by_hand(self):
        dice = random.Random(291)
        many = 0
        for text in TEXTS:
            for width in (1, 2, 3, 4):
                packets = [random_packet(dice, 8) for _ in range(6)]
                beats = dice.choice([cut_and_mixed(dice, packets, width, 3), random_beats(dice, 20, width)])
                for readies in dice.sample(readers(dice, 25), 3):
                    many += len(self.check(text, beats, width, dice.randint(3, 6), width + dice.choice((1, 2, 6)), readies))
        self.assertGreater(many, 500)

    def test_many_other_books(self):
        dice = random.Random(292)
        many = 0
        for book in random_books(293, 25):
            text = book_text(book)
            self.assertEqual(read_book(text), book)
            for _ in range(2):
                width = dice.randint(1, 4)
                packets = [random_packet(dice, 8, (97, 98, 255, 7)) for _ in range(6)]
                beats = cut_and_mixed(dice, packets, width, 3)
                many += len(self.check(text, beats, width, dice.randint(3, 6), width + dice.randint(1, 8),
                                       dice.choice(readers(dice, 25))))
        self.assertGreater(many, 150)

    def test_the_machines_are_of_the_least_table(self):
        larger = 0
        for text in TEXTS + [BOOK_OF_1]:
            table = least_table(text)[1]
            larger += len(table_of(read_book(text))[1]) > len(table[1])
            self.assertEqual(gates_for(text, 1, 3).bits, state_bits(table))
            machine = clocked_for(text, 4, 5)
            packets = [(97, 98), (99,), (), (100, 97, 98), (48, 49)]
            fed(machine, [(flow, True, packet, False) for flow, packet in enumerate(packets)], [])
            self.assertEqual(machine.store, {flow: state_behind(table, packet) for flow, packet in enumerate(packets)})
        self.assertGreater(larger, 5)

    def test_each_report_once_and_in_order(self):
        dice = random.Random(294)
        for text in TEXTS:
            beats = random_beats(dice, 30, 3)
            found = [(at, lane) for at, _, lane, _ in gates_for(text, 3, 4).scan(beats)]
            self.assertTrue(all(one < other for one, other in zip(found, found[1:])))


class LeastTable(unittest.TestCase):
    def test_what_is_returned(self):
        for text in TEXTS + [BOOK_OF_1, *[book_text(book) for book in random_books(295, 20)]]:
            found = least_table(text)
            self.assertIsInstance(found, tuple)
            book, table, paper = found
            self.assertEqual(book, read_book(text))
            self.assertEqual(table, least(table_of(book)))
            self.assertIs(is_paper(table, paper), True)
            # Behind the ways of reach each two states are told apart by the meaning itself.
            reach, apart, _ = paper
            for low, way in enumerate(reach):
                for high in range(low + 1, len(reach)):
                    ending = apart[low][high - low - 1]
                    told = [told_in(book, one + ending)[len(one):] for one in (way, reach[high])]
                    self.assertNotEqual(told[0], told[1])

    def test_no_machine_has_fewer_states(self):
        for text in TEXTS[:16]:
            book, table, _ = least_table(text)
            ways = all_packets(3, (97, 98, 0))
            # As many beginnings at least are told apart by short endings as short beginnings lead to unlike states.
            unlike = {tuple(told_in(book, way + ending)[len(way):] for ending in all_packets(3, (97, 98, 99)))
                      for way in ways}
            self.assertLessEqual(len(unlike), len({state_behind(table, way) for way in ways}))
            self.assertLessEqual(len(unlike), len(table[1]))
            for other in (table_of(book), table_of(read_book(text + "\n# more"))):
                self.assertLessEqual(len(table[1]), len(other[1]))

    def test_the_table_tells_what_the_meaning_is_from_each_state(self):
        for text in TEXTS:
            book, table, paper = least_table(text)
            for state, way in enumerate(paper[0]):
                for ending in all_packets(2, (97, 98, 48)):
                    self.assertEqual(told_from(table, state, ending), told_in(book, way + ending)[len(way):])

    def test_errors(self):
        for call in (least_table, lambda text: gates_for(text, 2, 3), lambda text: clocked_for(text, 2, 3),
                     # The text counts ahead of the sizes.
                     lambda text: gates_for(text, 0, 9), lambda text: clocked_for(text, 0, 0)):
            for text, place in (("x: a\ny: (", (2, 5)), ("x", (1, 2)), ("x: a{21}", (1, 6)), (None, (0, 0)), (b"x: a", (0, 0))):
                with self.assertRaises(BadText) as caught:
                    call(text)
                self.assertEqual((caught.exception.line, caught.exception.column), place)
            for text, name in (("x: a\nx: b", "x"), ("y: a*", "y"), ("\n".join(f"r{at}: a" for at in range(9)), "r8")):
                with self.assertRaises(BadBook) as caught:
                    call(text)
                self.assertEqual(caught.exception.name, name)
            with self.assertRaises(BadThing) as caught:
                call("x: a.{9}b")
            self.assertEqual(caught.exception.thing, 300)

    def test_errors_of_the_machines(self):
        for width, fan in ((0, 3), (1, 2), (1, 7), (-1, 0)):
            with self.assertRaises(BadThing) as caught:
                gates_for(EXAMPLE, width, fan)
            self.assertEqual(caught.exception.thing, (width, fan))
        for width, size in ((0, 3), (1, 1), (3, 3), (-1, 0)):
            with self.assertRaises(BadThing) as caught:
                clocked_for(EXAMPLE, width, size)
            self.assertEqual(caught.exception.thing, (width, size))


class Named(unittest.TestCase):
    def test_by_hand(self):
        book = read_book("z: a\ny: a\nx: b $")
        self.assertEqual(named_reports(book, [(0, 7, 0, (0, 1)), (3, 300, 2, (2,))]),
                         [(0, 7, 0, ("z", "y")), (3, 300, 2, ("x",))])
        self.assertEqual(named_reports(book, []), [])
        self.assertEqual(named_reports((), []), [])

    def test_machines(self):
        dice = random.Random(296)
        for text in TEXTS:
            book = read_book(text)
            beats = random_beats(dice, 20, 2)
            reports = gates_for(text, 2, 4).scan(beats)
            named = named_reports(book, reports)
            self.assertEqual([report[:3] for report in named], [report[:3] for report in reports])
            for (*_, names), (*_, rules) in zip(named, reports):
                self.assertEqual(names, tuple(book[rule][0] for rule in rules))
