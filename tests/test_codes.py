import unittest

from beatscan.codes import class_bits, class_net, end_net, rules_in, state_bits, step_net
from beatscan.nets import bits_of, check_net, lanes_told, net_told, number_of
from tests.books import EXAMPLE, least_of, random_tables, tables

MANY = tables() + random_tables(110, 15)


def bits_needed(many):
    return len(f"{many - 1:b}") if many > 1 else 0


def in_lanes(net, rows):
    """What a net tells for each row of bits."""
    columns = [sum(bits[at] << lane for lane, bits in enumerate(rows)) for at in range(net[0])]
    found = lanes_told(net, columns, len(rows))
    return [tuple(column >> lane & 1 for column in found) for lane in range(len(rows))]


def marks(rules, many):
    return tuple(int(rule in rules) for rule in range(many))


class Codes(unittest.TestCase):
    def test_the_example(self):
        table = least_of(EXAMPLE)
        self.assertEqual((state_bits(table), class_bits(table), rules_in(table)), (3, 2, 2))
        self.assertEqual(number_of(net_told(class_net(table), bits_of(97, 8))), table[0][97])

    def test_bits(self):
        for table in MANY:
            self.assertEqual(state_bits(table), bits_needed(len(table[1])))
            self.assertEqual(class_bits(table), bits_needed(len(set(table[0]))))

    def test_rules_in(self):
        for table in MANY:
            told = [rule for row in table[2] for rules in row for rule in rules]
            told += [rule for rules in table[3] for rule in rules]
            self.assertEqual(rules_in(table), max(told) + 1 if told else 0)
        self.assertEqual([rules_in(least_of(text)) for text in ("", "x: []", "x: a", "x: a $", "x: a\ny: []")],
                         [0, 0, 1, 1, 1])
        self.assertEqual([rules_in(least_of(text)) for text in ("x: []\ny: a", "x: a\ny: b $", "x: a $\ny: b")], [2, 2, 2])

    def test_each_byte(self):
        for table in MANY:
            net = class_net(table)
            check_net(net, 3)
            self.assertEqual((net[0], len(net[2])), (8, class_bits(table)))
            rows = [bits_of(byte, 8) for byte in range(256)]
            self.assertEqual([number_of(bits) for bits in in_lanes(net, rows)], list(table[0]))
            for byte in (0, 97, 255):
                self.assertEqual(number_of(net_told(net, bits_of(byte, 8))), table[0][byte])

    def test_each_class_and_state(self):
        for table in MANY:
            for rules in (rules_in(table), rules_in(table) + 2, 0):
                net = step_net(table, rules)
                check_net(net, 3)
                bits, many = state_bits(table), class_bits(table)
                self.assertEqual((net[0], len(net[2])), (many + bits, bits + rules))
                pairs = [(state, at) for state in range(len(table[1])) for at in range(len(table[1][0]))]
                found = in_lanes(net, [bits_of(at, many) + bits_of(state, bits) for state, at in pairs])
                self.assertEqual(found, [
                    bits_of(table[1][state][at], bits) + marks(table[2][state][at], rules) for state, at in pairs])

    def test_each_end(self):
        for table in MANY:
            for rules in (rules_in(table), rules_in(table) + 2, 0):
                net = end_net(table, rules)
                check_net(net, 3)
                bits = state_bits(table)
                self.assertEqual((net[0], len(net[2])), (bits, rules))
                found = in_lanes(net, [bits_of(state, bits) for state in range(len(table[1]))])
                self.assertEqual(found, [marks(told, rules) for told in table[3]])

    def test_one_state_and_one_class(self):
        table = ((0,) * 256, ((0,),), (((1,),),), ((0, 2),))
        self.assertEqual((state_bits(table), class_bits(table), rules_in(table)), (0, 0, 3))
        self.assertEqual(net_told(class_net(table), bits_of(5, 8)), ())
        self.assertEqual(net_told(step_net(table, 4), ()), (0, 1, 0, 0))
        self.assertEqual(net_told(end_net(table, 4), ()), (1, 0, 1, 0))

    def test_one_class_and_several_states(self):
        table = ((0,) * 256, ((1,), (2,), (0,)), (((),), ((),), ((0,),)), ((), (0,), ()))
        self.assertEqual((state_bits(table), class_bits(table)), (2, 0))
        self.assertEqual([net_told(step_net(table, 1), bits_of(state, 2)) for state in range(3)],
                         [(0, 1, 0), (1, 0, 0), (0, 0, 1)])

    def test_one_state_and_several_classes(self):
        table = (tuple(byte % 3 for byte in range(256)), ((0, 0, 0),), (((), (0,), (1,)),), ((),))
        self.assertEqual((state_bits(table), class_bits(table)), (0, 2))
        self.assertEqual([net_told(step_net(table, 2), bits_of(at, 2)) for at in range(3)], [(0, 0), (1, 0), (0, 1)])

    def test_tables_that_are_not_least(self):
        table = (tuple(byte // 100 for byte in range(256)), ((1, 0, 1), (1, 1, 1)), (((), (0,), ()),) * 2, ((), ()))
        net = step_net(table, 1)
        self.assertEqual([net_told(net, bits_of(at, 2) + bits_of(state, 1)) for state in range(2) for at in range(3)],
                         [(1, 0), (0, 1), (1, 0), (1, 0), (1, 1), (1, 0)])
