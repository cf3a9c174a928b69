import itertools
import random
import unittest

from beatscan.codes import class_net, end_net, rules_in, step_net
from beatscan.fooled import check_circuit, circuit_of, circuit_run, failing_packet
from beatscan.nets import net_told
from beatscan.papers import is_paper, paper_of
from beatscan.probes import first_failing, is_shown_right, probes_for, words_in
from beatscan.tables import run
from tests.books import EXAMPLE, least_of, random_packet, random_tables, tables
from tests.circuits import changed_circuits, random_circuit, right_circuit, with_a_bit_more, with_other_words
from tests.rowsets import all_packets

SMALL = [table for table in tables() + random_tables(240, 8) if len(table[1]) <= 12]
SILENT = ((10, (), (0, 0)), 0, (), 1)


def probes(paper, tried):
    """The probes by the words of [28], found in a list."""
    reach, apart, _ = paper
    found = []
    for beginning in [()] + list(reach) + [way + (byte,) for way in reach for byte in tried]:
        for ending in [()] + [ending for row in apart for ending in row]:
            if beginning + ending not in found:
                found.append(beginning + ending)
    return sorted(found)


def all_words(circuit):
    """All values of a circuit's memory behind bytes, each step asked of the net by itself."""
    net, bits, first, _ = circuit
    found = {tuple(first)}
    while True:
        more = {net_told(net, (1, *[byte >> at & 1 for at in range(7, -1, -1)], 0, *word))[:bits]
                for word in found for byte in range(256)}
        if more <= found:
            return found
        found |= more


def longer_paper(table, paper):
    """A paper with a way to state 0 that isn't empty, or None."""
    for packet in all_packets(3, (97, 98, 0)):
        other = ((packet,) + paper[0][1:],) + paper[1:]
        if packet and is_paper(table, other):
            return other
    return None


class ProbesFor(unittest.TestCase):
    def test_the_example(self):
        small = least_of("k: a b")
        small_nets = (class_net(small), step_net(small, 1), end_net(small, 1))
        circuit = circuit_of(small_nets, 1, 1)
        self.assertEqual(
            (words_in(circuit, 9), is_shown_right(circuit, small, paper_of(small)),
             first_failing(SILENT, small, [(97,), (97, 98)]),
             probes_for((((), (97,)), (((98,),), ()), ((0,), ())), (97,))),
            (2, True, (97, 98), [(), (97,), (97, 97), (97, 97, 98), (97, 98), (98,)]))

    def test_by_an_own_reading(self):
        for table in SMALL:
            paper = paper_of(table)
            for tried in ((), (97,), (0, 255), [98, 97, 98], (97, 98, 255, 0, 1)):
                self.assertEqual(probes_for(paper, tried), probes(paper, tried))

    def test_all_bytes(self):
        for table in SMALL[:8]:
            paper = paper_of(table)
            found = probes_for(paper)
            self.assertEqual(found, probes_for(paper, range(256)))
            self.assertEqual(found, probes_for(paper, None))
            if len(table[1]) <= 4:
                self.assertEqual(found, probes(paper, range(256)))
            for way in paper[0]:
                for byte in range(256):
                    self.assertIn(way + (byte,), found)

    def test_each_once_and_ascending(self):
        for table in SMALL:
            found = probes_for(paper_of(table), (97, 97, 98))
            self.assertIsInstance(found, list)
            self.assertTrue(all(isinstance(packet, tuple) for packet in found))
            self.assertTrue(all(one < other for one, other in zip(found, found[1:])))

    def test_one_state(self):
        paper = paper_of(least_of(""))
        self.assertEqual(probes_for(paper, ()), [()])
        self.assertEqual(probes_for(paper, (5, 3)), [(), (3,), (5,)])
        self.assertEqual(len(probes_for(paper)), 257)

    def test_a_way_to_state_0_that_is_not_empty(self):
        paper = (((97,), (98, 98)), (((99,),), ()), ((0,), ()))
        # The empty beginning stands for itself; one more byte comes behind the ways.
        self.assertEqual(probes_for(paper, (1,)), sorted(
            way + ending for way in ((), (97,), (98, 98), (97, 1), (98, 98, 1)) for ending in ((), (99,))))


class FirstFailing(unittest.TestCase):
    def test_by_an_own_reading(self):
        dice = random.Random(241)
        found = {True: 0, False: 0}
        for table in SMALL:
            for circuit in [right_circuit(table), *changed_circuits(dice, right_circuit(table), 6)]:
                packets = [random_packet(dice, 5) for _ in range(8)]
                right = [packet for packet in packets if circuit_run(circuit, packet) != run(table, packet)]
                self.assertEqual(first_failing(circuit, table, packets), right[0] if right else None)
                self.assertEqual(first_failing(circuit, table, tuple(packets)), right[0] if right else None)
                found[right == []] += 1
        self.assertGreater(min(found.values()), 20)

    def test_the_first_not_the_least(self):
        table = least_of("k: a b")
        self.assertEqual(first_failing(SILENT, table, [(98,), (99, 97, 98), (97, 98)]), (99, 97, 98))
        self.assertIsNone(first_failing(SILENT, table, [(98,), (97,), ()]))
        self.assertIsNone(first_failing(SILENT, table, []))

    def test_at_the_end_alone(self):
        self.assertEqual(first_failing(SILENT, least_of("k: a b $"), [(97,), (97, 98, 97), (97, 98)]), (97, 98))


class WordsIn(unittest.TestCase):
    def test_by_an_own_reading(self):
        dice = random.Random(242)
        seen = set()
        for _ in range(60):
            circuit = random_circuit(dice, dice.randint(0, 4), 1)
            many = len(all_words(circuit))
            seen.add(many)
            for most in range(18):
                self.assertEqual(words_in(circuit, most), min(many, most + 1))
        self.assertGreater(len(seen), 5)

    def test_circuits_of_tables(self):
        # A table's circuit comes to all states, and to nothing else.
        for table in SMALL:
            states = len(table[1])
            circuit = right_circuit(table)
            for most, right in ((states + 5, states), (states, states), (states - 1, states), (states - 2, states - 1)):
                if most >= 0:
                    self.assertEqual(words_in(circuit, most), right)

    def test_the_end_plays_no_part(self):
        # At a packet's end the memory would get another value.
        circuit = ((11, (((11, 12), (0, 1, 1, 1)),), (13, 0, 0)), 1, (0,), 1)
        check_circuit(circuit, 3)
        self.assertEqual(words_in(circuit, 9), 1)

    def test_no_memory_and_most_0(self):
        self.assertEqual([words_in(SILENT, most) for most in (0, 1, 9)], [1, 1, 1])

    def test_a_counter_of_many_bits(self):
        # A row of bits, one word of which is moved on by each byte.
        bits = 8
        circuit = ((10 + bits, (), (2, *range(12, 11 + bits))), bits, (0,) * bits, 0)
        check_circuit(circuit, 3)
        self.assertEqual([words_in(circuit, most) for most in (3, 8, 9, 10, 100)], [4, 9, 9, 9, 9])
        free = ((10 + bits, (), (10, *range(12, 11 + bits))), bits, (0,) * bits, 0)
        self.assertEqual([words_in(free, most) for most in (3, 100, 255, 256, 300)], [4, 101, 256, 256, 256])


class ShownRight(unittest.TestCase):
    def test_right_circuits(self):
        dice = random.Random(243)
        for table in tables() + random_tables(244, 6):
            paper = paper_of(table)
            circuit = right_circuit(table)
            self.assertIs(is_shown_right(circuit, table, paper), True)
            other = with_other_words(circuit, [dice.randint(0, 1) for _ in range(circuit[1])])
            check_circuit(other, 3)
            self.assertIsNone(failing_packet(other, table))
            self.assertIs(is_shown_right(other, table, paper), True)

    def test_another_paper(self):
        many = 0
        for table in SMALL:
            paper = longer_paper(table, paper_of(table))
            if paper is not None:
                many += 1
                self.assertIs(is_shown_right(right_circuit(table), table, paper), True)
        self.assertGreater(many, 5)

    def test_changed_circuits(self):
        dice = random.Random(245)
        found = {True: 0, False: 0}
        for table in SMALL:
            paper = paper_of(table)
            for circuit in changed_circuits(dice, right_circuit(table), 5):
                shown = is_shown_right(circuit, table, paper)
                found[shown] += 1
                packet = failing_packet(circuit, table)
                # What is shown right is right; what is right and has no more words than states is shown right.
                few = len(all_words(circuit)) <= len(table[1])
                self.assertIs(shown, packet is None and few)
                if shown:
                    for short in all_packets(3, (97, 98, 0)):
                        self.assertEqual(circuit_run(circuit, short), run(table, short))
        self.assertGreater(min(found.values()), 10)

    def test_circuits_of_any_making(self):
        dice = random.Random(246)
        for _ in range(100):
            table = dice.choice(SMALL)
            circuit = random_circuit(dice, dice.randint(0, 4), max(1, rules_in(table)))
            few = len(all_words(circuit)) <= len(table[1])
            self.assertIs(is_shown_right(circuit, table, paper_of(table)),
                          few and failing_packet(circuit, table) is None)

    def test_right_circuits_with_more_words(self):
        more = []
        for table in SMALL:
            circuit = right_circuit(table)
            # The bit tells whether the number of bytes is odd.
            other = with_a_bit_more(circuit, (0, 1, 1, 0))
            check_circuit(other, 3)
            self.assertIsNone(failing_packet(other, table))
            many = len(all_words(other))
            self.assertEqual(words_in(other, 100), many)
            more.append(many > len(table[1]))
            self.assertIs(is_shown_right(other, table, paper_of(table)), not more[-1])
            # A bit that never changes makes no more words.
            self.assertIs(is_shown_right(with_a_bit_more(circuit, (0, 1, 0, 1), 1), table, paper_of(table)), True)
        self.assertGreater(more.count(True), 15)

    def test_a_wrong_way_that_one_byte_shows(self):
        # One byte of 256 leads elsewhere, from one state alone.
        one, other = least_of("x: ^ ab[a-y]{2}c $"), least_of("x: ^ ab[a-z]{2}c $")
        self.assertEqual(len(one[1]), len(other[1]))
        self.assertEqual(run(one, tuple(b"abzac"))[-1], ())
        for table, wrong in ((one, other), (other, one)):
            self.assertIs(is_shown_right(right_circuit(wrong), table, paper_of(table)), False)
            self.assertIs(is_shown_right(right_circuit(table), table, paper_of(table)), True)

    def test_wrong_at_the_empty_packet_alone(self):
        table = least_of(EXAMPLE)
        (inputs, gates, outputs), bits, first, rules = right_circuit(table)
        # Rule 0 is told at the end where the memory is that of the beginning; no byte leads there.
        signal = 2 + inputs + len(gates)
        words = (1,) + (0,) * (2 ** bits - 1)
        is_first = (tuple(range(12, 12 + bits)), words)
        net = (inputs, gates + (is_first, ((signal, 11), (0, 0, 0, 1))), outputs[:-2] + (signal + 1, outputs[-1]))
        loud = (net, bits, first, rules)
        self.assertEqual(circuit_run(loud, ()), ((0,),))
        self.assertEqual(failing_packet(loud, table), ())
        self.assertEqual(first_failing(loud, table, probes_for(paper_of(table))), ())
        self.assertIs(is_shown_right(loud, table, paper_of(table)), False)

    def test_all_short_packets(self):
        table = least_of("x: ^ (aa)+ $\ny: ab")
        circuit = right_circuit(table)
        self.assertIs(is_shown_right(circuit, table, paper_of(table)), True)
        for packet in itertools.chain.from_iterable(itertools.product((97, 98, 99), repeat=many) for many in range(6)):
            self.assertEqual(circuit_run(circuit, packet), run(table, packet))
