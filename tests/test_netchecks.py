import random
import unittest

from beatscan.codes import class_bits, class_net, end_net, rules_in, state_bits, step_net
from beatscan.errors import BadNet
from beatscan.gathering import gathered
from beatscan.netchecks import check_nets, wrong_class_net, wrong_end_net, wrong_step_net
from beatscan.nets import bits_of, net_told
from tests.books import EXAMPLE, least_of, random_tables, tables

MANY = tables() + random_tables(130, 6)
SMALL = [table for table in MANY if len(table[1]) <= 12]


def nets_of(table, rules):
    return (class_net(table), step_net(table, rules), end_net(table, rules))


def marks(rules, many):
    return tuple(int(rule in rules) for rule in range(many))


def first_wrong_byte(net, table):
    many = class_bits(table)
    return next((byte for byte in range(256) if net_told(net, bits_of(byte, 8)) != bits_of(table[0][byte], many)), None)


def first_wrong_pair(net, table):
    _, rows, tells, _ = table
    bits, many = state_bits(table), class_bits(table)
    for state in range(len(rows)):
        for at in range(len(rows[0])):
            right = bits_of(rows[state][at], bits) + marks(tells[state][at], len(net[2]) - bits)
            if net_told(net, bits_of(at, many) + bits_of(state, bits)) != right:
                return (state, at)
    return None


def first_wrong_state(net, table):
    for state, rules in enumerate(table[3]):
        if net_told(net, bits_of(state, state_bits(table))) != marks(rules, len(net[2])):
            return state
    return None


CHECKS = ((wrong_class_net, first_wrong_byte), (wrong_step_net, first_wrong_pair), (wrong_end_net, first_wrong_state))


def with_word_changed(net, at, place):
    inputs, gates, outputs = net
    signals, words = gates[at]
    words = words[:place] + (1 - words[place],) + words[place + 1:]
    return (inputs, gates[:at] + ((signals, words),) + gates[at + 1:], outputs)


def with_output_changed(net, at, signal):
    inputs, gates, outputs = net
    return (inputs, gates, outputs[:at] + (signal,) + outputs[at + 1:])


class Wrong(unittest.TestCase):
    def test_the_example(self):
        table = least_of(EXAMPLE)
        self.assertIsNone(wrong_class_net(class_net(table), table))
        self.assertIsNone(wrong_step_net(step_net(table, 2), table))
        self.assertIsNone(wrong_end_net(end_net(table, 2), table))
        self.assertIsNotNone(wrong_class_net((8, (), (0, 0)), table))

    def test_nets_of_tables(self):
        for table in MANY:
            for rules in (rules_in(table), rules_in(table) + 2):
                nets = nets_of(table, rules)
                for fan in (3, 5):
                    late = [gathered(net, fan) for net in nets]
                    for made in (nets, late):
                        self.assertEqual([check(net, table) for net, (check, _) in zip(made, CHECKS)], [None] * 3)

    def test_one_word_changed(self):
        dice = random.Random(131)
        found = {True: 0, False: 0}
        for table in SMALL:
            for net, (check, first) in zip(nets_of(table, rules_in(table)), CHECKS):
                for at in dice.sample(range(len(net[1])), min(12, len(net[1]))):
                    for place in range(len(net[1][at][1])):
                        other = with_word_changed(net, at, place)
                        self.assertEqual(check(other, table), first(other, table))
                        found[check(other, table) is None] += 1
        self.assertGreater(min(found.values()), 50)

    def test_one_output_changed(self):
        dice = random.Random(132)
        many = 0
        for table in SMALL:
            for net, (check, first) in zip(nets_of(table, rules_in(table) + 1), CHECKS):
                for at in range(len(net[2])):
                    for signal in (0, 1, dice.randrange(2 + net[0] + len(net[1]))):
                        other = with_output_changed(net, at, signal)
                        self.assertEqual(check(other, table), first(other, table))
                        many += check(other, table) is not None
        self.assertGreater(many, 50)

    def test_the_first_place(self):
        table = least_of(EXAMPLE)
        # Bytes 97, 98, 99 and the others.
        self.assertEqual(table[0][:100], (0,) * 97 + (1, 2, 3))
        self.assertEqual(wrong_class_net((8, (), (0, 0)), table), 97)
        self.assertEqual(wrong_class_net((8, (), (0, 1)), table), 0)
        first = next(state for state, told in enumerate(table[3]) if told)
        self.assertEqual(wrong_end_net((3, (), (0, 0)), table), first)
        self.assertEqual(wrong_end_net((3, (), (0, 1)), table), 0)

    def test_what_is_told_for_no_class_or_state_is_free(self):
        table = ((0,) * 255 + (1,), ((1, 2), (2, 0), (0, 1)), (((), (0,)), ((), ()), ((0,), ())), ((), (), (0,)))
        self.assertEqual((class_bits(table), state_bits(table)), (1, 2))
        told = [(0, 1, 0), (1, 0, 0), (0, 0, 1), None, (1, 0, 1), (0, 0, 0), (0, 1, 0), None]
        for free in ((0, 0, 0), (1, 1, 1)):
            words = [told[value] or free for value in range(8)]
            gates = tuple(((2, 3, 4), tuple(word[at] for word in words)) for at in range(3))
            self.assertIsNone(wrong_step_net((3, gates, (5, 6, 7)), table))
            self.assertIsNone(wrong_end_net((2, (((2, 3), (0, 0, 1, free[0])),), (4,)), table))

    def test_rules_without_an_output_are_not_told(self):
        table = least_of("x: [ab]\ny: b\nz: c $")
        self.assertIsNotNone(wrong_step_net(step_net(table, 0), table))
        state, at = wrong_step_net(step_net(table, 1), table)
        self.assertIn(1, table[2][state][at])
        self.assertIsNone(wrong_step_net(step_net(table, 2), table))
        self.assertIn(2, table[3][wrong_end_net(end_net(table, 2), table)])
        self.assertIsNone(wrong_end_net(end_net(table, 3), table))
        table = least_of("x: ^ ab $")
        self.assertEqual(table[3][wrong_end_net(end_net(table, 0), table)], (0,))
        self.assertIsNone(wrong_step_net(step_net(table, 0), table))
        table = least_of("x: ^ ab")
        state, at = wrong_step_net(step_net(table, 0), table)
        self.assertEqual(table[2][state][at], (0,))

    def test_other_numbers_of_inputs_or_outputs(self):
        table = least_of(EXAMPLE)
        for net, (check, _), start in zip(nets_of(table, 2), CHECKS, (0, (0, 0), 0)):
            inputs, gates, outputs = net
            self.assertEqual(check((inputs + 1, (), (0,) * len(outputs)), table), start)
            self.assertEqual(check((inputs - 1, (), (0,) * len(outputs)), table), start)
        net = class_net(table)
        self.assertEqual(wrong_class_net((8, net[1], net[2] + (0,)), table), 0)
        self.assertEqual(wrong_class_net((8, net[1], net[2][1:]), table), 0)
        self.assertEqual(wrong_step_net((5, (), (0, 0)), table), (0, 0))
        # Here words 0 alone would be right of class 0 in state 0, but there are too few.
        table = least_of("x: ab")
        self.assertEqual(step_net(table, 1)[0], 3)
        self.assertEqual(wrong_step_net((3, (), (0, 0, 0)), table), (0, 1))
        self.assertEqual(wrong_step_net((3, (), ()), table), (0, 0))


class CheckNets(unittest.TestCase):
    def setUp(self):
        self.table = least_of(EXAMPLE)
        self.nets = nets_of(self.table, 2)

    def refuse(self, nets, at, fan=3, rules=2, table=None):
        with self.assertRaises(BadNet) as caught:
            check_nets(nets, table or self.table, fan, rules)
        self.assertEqual(caught.exception.at, at)
        self.assertTrue(hasattr(caught.exception, "why"))

    def changed(self, number, net):
        return self.nets[:number] + (net,) + self.nets[number + 1:]

    def test_nets_of_tables(self):
        for table in MANY:
            for rules in (rules_in(table), rules_in(table) + 1):
                nets = nets_of(table, rules)
                self.assertIsNone(check_nets(nets, table, 3, rules))
                self.assertIsNone(check_nets([gathered(net, 4) for net in nets], table, 4, rules))

    def test_a_wrong_form_in_each(self):
        for number, (inputs, gates, outputs) in enumerate(self.nets):
            many = len(gates)
            last = 2 + inputs + many
            for gate in (((last,), (0, 1)), ((2,), (0, 1, 0)), ((2,), (0, 2)), ((2,) * 4, (0,) * 16)):
                self.refuse(self.changed(number, (inputs, gates + (gate,), outputs)), many)
            self.refuse(self.changed(number, (inputs, (((last,), (0, 1)),) + gates, outputs)), 0)
            self.refuse(self.changed(number, (inputs, gates, outputs[:-1] + (last,))), many)

    def test_other_numbers_of_inputs_in_each(self):
        for number, (inputs, gates, outputs) in enumerate(self.nets):
            self.refuse(self.changed(number, (inputs + 1, gates, outputs)), number)
            self.refuse(self.changed(number, (inputs - 1, (), (0,) * len(outputs))), number)

    def test_other_numbers_of_outputs_in_each(self):
        for number, (inputs, gates, outputs) in enumerate(self.nets):
            self.refuse(self.changed(number, (inputs, gates, outputs + (0,))), number)
            self.refuse(self.changed(number, (inputs, gates, outputs[:-1])), number)
            self.refuse(self.changed(number, (inputs, gates, ())), number)

    def test_other_rules(self):
        self.refuse(self.nets, 1, rules=3)
        self.refuse(self.nets, 1, rules=1)
        self.refuse((self.nets[0], step_net(self.table, 3), self.nets[2]), 2, rules=3)
        # As many as asked for, but the table tells of more.
        self.refuse(nets_of(self.table, 1), 2, rules=1)
        self.refuse(nets_of(self.table, 0), 1, rules=0)

    def test_wrong_ones(self):
        for number, (inputs, gates, outputs) in enumerate(self.nets):
            self.refuse(self.changed(number, (inputs, gates, (0,) * len(outputs))), number)

    def test_the_first_of_several(self):
        wrong = [(inputs, gates, (1,) * len(outputs)) for inputs, gates, outputs in self.nets]
        wrong_form = [(inputs, gates + (((99999,), (0, 1)),), outputs) for inputs, gates, outputs in self.nets]
        for number in range(3):
            for others in (wrong, wrong_form):
                self.refuse(self.nets[:number] + (wrong[number], *others[number + 1:]), number)
                many = len(self.nets[number][1])
                self.refuse(self.nets[:number] + (wrong_form[number], *others[number + 1:]), many)

    def test_form_ahead_of_numbers_ahead_of_what_is_told(self):
        inputs, gates, outputs = self.nets[1]
        both = (inputs + 1, gates + (((2,), (0,)),), outputs[1:])
        self.refuse(self.changed(1, both), len(gates))

    def test_gates_of_more_signals(self):
        for number, net in enumerate(self.nets):
            late = gathered(net, 6)
            places = [at for at, (signals, _) in enumerate(late[1]) if len(signals) > 3]
            if places:
                self.refuse(self.changed(number, late), places[0])
                check_nets(self.changed(number, late), self.table, 6, 2)
        self.refuse(self.nets, next(at for at, gate in enumerate(self.nets[0][1]) if len(gate[0]) > 2), fan=2)

    def test_one_word_changed(self):
        dice = random.Random(133)
        for table in SMALL:
            rules = rules_in(table)
            nets = nets_of(table, rules)
            for number, (check, _) in enumerate(CHECKS):
                gates = nets[number][1]
                for at in dice.sample(range(len(gates)), min(4, len(gates))):
                    other = with_word_changed(nets[number], at, dice.randrange(len(gates[at][1])))
                    changed = nets[:number] + (other,) + nets[number + 1:]
                    if check(other, table) is None:
                        check_nets(changed, table, 3, rules)
                    else:
                        self.refuse(changed, number, 3, rules, table)
