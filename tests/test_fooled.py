import itertools
import random
import unittest

from beatscan.codes import class_net, end_net, rules_in, state_bits, step_net
from beatscan.errors import BadNet, BadThing
from beatscan.fooled import check_circuit, circuit_of, circuit_run, failing_packet, fooled
from beatscan.papers import paper_of
from beatscan.tables import run
from tests.books import EXAMPLE, least_of, random_packet, random_tables, tables
from tests.circuits import changed_circuits, random_circuit, right_circuit

SMALL = [table for table in tables() + random_tables(160, 8) if len(table[1]) <= 12]


def first_failing(circuit, table, most, signs):
    """The shortest, then least packet of a few signs that a circuit gets wrong."""
    for many in range(most + 1):
        for packet in itertools.product(sorted(signs), repeat=many):
            if circuit_run(circuit, packet) != run(table, packet):
                return packet
    return None


class CircuitRun(unittest.TestCase):
    def test_the_example(self):
        table = least_of(EXAMPLE)
        nets = (class_net(table), step_net(table, 2), end_net(table, 2))
        right = circuit_of(nets, 3, 2)
        silent = ((10, (), (0, 0, 0, 0)), 0, (), 2)
        paper = paper_of(table)
        self.assertEqual((failing_packet(right, table), fooled(right, paper), failing_packet(silent, table),
                          circuit_run(silent, (97, 98)), len(fooled(silent, paper))),
                         (None, None, (97, 97), ((), (), ()), 2))

    def test_circuits_of_tables(self):
        dice = random.Random(161)
        for table in tables() + random_tables(162, 10):
            for fan in (3, 6):
                circuit = right_circuit(table, fan)
                self.assertEqual((circuit[1], circuit[2]), (state_bits(table), (0,) * state_bits(table)))
                check_circuit(circuit, fan)
                for packet in [()] + [random_packet(dice, 6) for _ in range(25)]:
                    self.assertEqual(circuit_run(circuit, packet), run(table, packet))

    def test_a_circuit_by_hand(self):
        # The memory is the last byte's lowest bit; rule 0 is told where it was 1, rule 1 where the byte is odd,
        # both at the end where there is no byte and the memory is 1.
        memory, is_there, low, is_end = 12, 2, 10, 11
        both = (0, 0, 0, 1)
        gates = (((is_there, memory, low), (0, 0, 1, 1, 0, 1, 0, 1)), ((is_there, memory), both), ((is_there, low), both),
                 ((is_end, is_there, memory), (0, 0, 0, 0, 0, 1, 0, 0)))
        circuit = ((11, gates, (13, 14, 15, 16, 16)), 1, (1,), 2)
        check_circuit(circuit, 3)
        self.assertEqual(circuit_run(circuit, ()), ((0, 1),))
        self.assertEqual(circuit_run(circuit, (4,)), ((0,), ()))
        self.assertEqual(circuit_run(circuit, (4, 5, 7)), ((0,), (1,), (0, 1), (0, 1)))
        self.assertEqual(circuit_run(((11, gates, (13, 14, 15, 16, 16)), 1, (0,), 2), (5,)), ((1,), (0, 1)))

    def test_what_is_told_elsewhere_does_not_count(self):
        # All rules are told on the lane where there is no byte, and at the end where the packet goes on.
        gates = (((2,), (1, 0)), ((11,), (1, 0)))
        circuit = ((10, gates, (12, 13)), 0, (), 1)
        self.assertEqual(circuit_run(circuit, (1, 2)), ((), (), ()))
        table = least_of("")
        self.assertIsNone(failing_packet(circuit, table))


class CheckCircuit(unittest.TestCase):
    def refuse(self, circuit, error, fan=3):
        with self.assertRaises(error) as caught:
            check_circuit(circuit, fan)
        return caught.exception

    def test_right_ones(self):
        for table in tables():
            self.assertIsNone(check_circuit(right_circuit(table), 3))
        self.assertIsNone(check_circuit(((10, (), (0, 0, 0, 0)), 0, (), 2), 3))
        self.assertIsNone(check_circuit(((13, (), (0,) * 3), 3, (0, 1, 0), 0), 3))

    def test_nets_of_a_wrong_form(self):
        self.assertEqual(self.refuse(((10, (((2, 99), (0, 0, 0, 1)),), (0, 0)), 0, (), 1), BadNet).at, 0)
        self.assertEqual(self.refuse(((10, (((2,), (0, 1)), ((2,), (0,))), (0, 0)), 0, (), 1), BadNet).at, 1)
        self.assertEqual(self.refuse(((10, (((2,), (0, 1)),), (0, 13)), 0, (), 1), BadNet).at, 1)
        self.assertEqual(self.refuse(((10, (((2, 3, 4, 5), (0,) * 16),), (0, 0)), 0, (), 1), BadNet).at, 0)
        check_circuit(((10, (((2, 3, 4, 5), (0,) * 16),), (0, 0)), 0, (), 1), 4)

    def test_other_numbers(self):
        for table in SMALL:
            (inputs, gates, outputs), bits, first, rules = right_circuit(table)
            net = (inputs, gates, outputs)
            for circuit in (((inputs + 1, (), (0,) * len(outputs)), bits, first, rules),
                            ((inputs - 1, (), (0,) * len(outputs)), bits, first, rules),
                            ((inputs, gates, outputs + (0,)), bits, first, rules),
                            ((inputs, gates, outputs + (0, 1)), bits, first, rules),
                            (net, bits, first + (0,), rules), (net, bits, first, rules + 1)):
                self.assertEqual(self.refuse(circuit, BadThing).thing, bits)
            self.assertEqual(self.refuse((net, bits + 1, first + (0,), rules), BadThing).thing, bits + 1)
            if bits:
                self.assertEqual(self.refuse((net, bits, first[1:], rules), BadThing).thing, bits)
                self.assertEqual(self.refuse(((inputs, gates, outputs[1:]), bits, first, rules), BadThing).thing, bits)

    def test_the_net_ahead_of_the_numbers(self):
        self.refuse(((9, (((50,), (0, 1)),), ()), 4, (), 1), BadNet)


class FailingPacket(unittest.TestCase):
    def test_right_circuits(self):
        for table in tables() + random_tables(163, 10):
            for fan in (3, 6):
                self.assertIsNone(failing_packet(right_circuit(table, fan), table))

    def test_circuits_of_other_tables(self):
        for one, other in itertools.permutations(SMALL, 2):
            if rules_in(one) <= rules_in(other):
                rules = rules_in(other)
                circuit = circuit_of((class_net(one), step_net(one, rules), end_net(one, rules)), state_bits(one), rules)
                packet = failing_packet(circuit, other)
                self.assertEqual(packet is None, one == other)
                if packet is not None:
                    self.assertNotEqual(circuit_run(circuit, packet), run(other, packet))

    def test_the_packet_of_no_byte(self):
        table = least_of(EXAMPLE)
        net, bits, first, rules = right_circuit(table)
        # Rule 1 is told at each end.
        loud = ((net[0], net[1], net[2][:-1] + (11,)), bits, first, rules)
        self.assertEqual(failing_packet(loud, table), ())

    def test_at_an_end_alone(self):
        table = least_of(EXAMPLE)
        net, bits, first, rules = right_circuit(table)
        silent = ((net[0], net[1], net[2][:-1] + (0,)), bits, first, rules)
        self.assertEqual(failing_packet(silent, table), (97, 97))

    def test_on_a_byte_alone(self):
        table = least_of(EXAMPLE)
        net, bits, first, rules = right_circuit(table)
        silent = ((net[0], net[1], net[2][:-4] + (0,) + net[2][-3:]), bits, first, rules)
        self.assertEqual(failing_packet(silent, table), (97, 98))

    def test_behind_several_bytes(self):
        table = least_of("x: ^ abcde")
        silent = ((10, (), (0, 0)), 0, (), 1)
        self.assertEqual(failing_packet(silent, table), (97, 98, 99, 100, 101))
        self.assertEqual(failing_packet(silent, least_of("x: ^ .{4}[x-z] $")), (0, 0, 0, 0, 120))

    def test_an_end_counts_ahead_of_a_longer_packet(self):
        # Behind 97 and then 97 a step is wrong, behind 98 the end is.
        silent = ((10, (), (0, 0, 0, 0)), 0, (), 2)
        self.assertEqual(failing_packet(silent, least_of("x: ^ aa\ny: ^ b $")), (98,))
        self.assertEqual(failing_packet(silent, least_of("x: ^ ba\ny: ^ ab $")), (97, 98))

    def test_too_few_rules(self):
        table = least_of("x: []\ny: ^ ab")
        self.assertEqual(failing_packet(((10, (), (0, 0)), 0, (), 1), table), (97, 98))

    def test_changed_circuits(self):
        dice = random.Random(164)
        found = {True: 0, False: 0}
        for table in SMALL:
            signs = sorted({0, 97, 98, 255})
            for circuit in changed_circuits(dice, right_circuit(table), 12):
                packet = failing_packet(circuit, table)
                found[packet is None] += 1
                few = first_failing(circuit, table, 2, signs)
                if packet is None:
                    self.assertIsNone(few)
                    continue
                self.assertNotEqual(circuit_run(circuit, packet), run(table, packet))
                self.assertTrue(few is None or (len(packet), packet) <= (len(few), few))
                if len(packet) <= 2:
                    self.assertEqual(packet, first_failing(circuit, table, 1, range(256)) or packet)
                if len(packet) == 2:
                    for byte in range(256):
                        for other in ((packet[0], byte), (byte, packet[1])):
                            if other < packet:
                                self.assertEqual(circuit_run(circuit, other), run(table, other))
        self.assertGreater(min(found.values()), 10)

    def test_circuits_of_any_making(self):
        dice = random.Random(165)
        for _ in range(150):
            table = dice.choice(SMALL)
            circuit = random_circuit(dice, dice.randint(0, 4), max(1, rules_in(table)))
            packet = failing_packet(circuit, table)
            few = first_failing(circuit, table, 2, (0, 97, 98, 255))
            if packet is None:
                self.assertIsNone(few)
            else:
                self.assertNotEqual(circuit_run(circuit, packet), run(table, packet))
                self.assertTrue(few is None or (len(packet), packet) <= (len(few), few))

    def test_more_memory_than_needed(self):
        # A bit more, that holds whether any byte came, and plays no part.
        table = least_of("x: ab")
        (inputs, gates, outputs), bits, first, rules = right_circuit(table)
        more = ((inputs + 1, tuple((tuple(part + (part >= 2 + inputs) for part in signals), words)
                                   for signals, words in gates),
                 tuple(part + (part >= 2 + inputs) for part in outputs[:bits]) + (1,)
                 + tuple(part + (part >= 2 + inputs) for part in outputs[bits:])), bits + 1, first + (0,), rules)
        check_circuit(more, 3)
        self.assertIsNone(failing_packet(more, table))


class Fooled(unittest.TestCase):
    def check(self, circuit, table):
        paper = paper_of(table)
        reach, apart, _ = paper
        pair = fooled(circuit, paper)
        if pair is None:
            return False
        self.assertIsInstance(pair, tuple)
        one, other = pair
        self.assertTrue(any(
            one == reach[low] + apart[low][high - low - 1] and other == reach[high] + apart[low][high - low - 1]
            for high in range(len(reach)) for low in range(high)))
        self.assertTrue(circuit_run(circuit, one) != run(table, one) or circuit_run(circuit, other) != run(table, other))
        return True

    def test_right_circuits(self):
        for table in tables() + random_tables(166, 10):
            self.assertFalse(self.check(right_circuit(table), table))

    def test_too_few_bits(self):
        dice = random.Random(167)
        for table in SMALL:
            rules = max(1, rules_in(table))
            for bits in range(state_bits(table)):
                for _ in range(6):
                    self.assertTrue(self.check(random_circuit(dice, bits, rules), table))

    def test_circuits_of_any_making(self):
        dice = random.Random(168)
        found = {True: 0, False: 0}
        for _ in range(150):
            table = dice.choice(SMALL)
            found[self.check(random_circuit(dice, dice.randint(0, 4), max(1, rules_in(table))), table)] += 1
        for table in SMALL:
            for circuit in changed_circuits(dice, right_circuit(table), 5):
                found[self.check(circuit, table)] += 1
        self.assertGreater(min(found.values()), 20)

    def test_the_lesser_state_first(self):
        table = least_of("x: ^ ab")
        reach, apart, _ = paper = paper_of(table)
        self.assertEqual(len(reach), 3)
        # Two bits hold whether the byte was 97 at the beginning, and any byte otherwise: 0 and 1 are one word.
        never = ((10, (), (0, 0)), 0, (), 1)
        one, other = fooled(never, paper)
        self.assertEqual((one, other), (reach[0] + apart[0][0], reach[1] + apart[0][0]))

    def test_two_words_for_three_states(self):
        # One bit: whether there was a byte; so the states behind one are alike.
        table = least_of("x: ^ ab")
        circuit = ((11, (), (1, 0, 0)), 1, (0,), 1)
        reach, apart, _ = paper = paper_of(table)
        self.assertEqual(fooled(circuit, paper), (reach[1] + apart[1][0], reach[2] + apart[1][0]))

    def test_the_memory_at_the_beginning_counts(self):
        table = least_of("x: ^ ab")
        reach, apart, _ = paper = paper_of(table)
        circuit = ((11, (), (1, 0, 0)), 1, (1,), 1)
        self.assertEqual(fooled(circuit, paper), (reach[0] + apart[0][0], reach[1] + apart[0][0]))

    def test_the_memory_is_that_behind_bytes_alone(self):
        # At the end all memory is lost; behind bytes it is right.
        for table in SMALL:
            (inputs, gates, outputs), bits, first, rules = right_circuit(table)
            signal = 2 + inputs + len(gates)
            lost = tuple(((11, part), (0, 1, 0, 0)) for part in outputs[:bits])
            net = (inputs, gates + lost, tuple(range(signal, signal + bits)) + outputs[bits:])
            self.assertFalse(self.check((net, bits, first, rules), table))
            self.assertIsNone(failing_packet((net, bits, first, rules), table))
