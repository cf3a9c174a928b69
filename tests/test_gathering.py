import random
import unittest

from beatscan.codes import class_net, end_net, rules_in, step_net
from beatscan.gathering import gathered
from beatscan.nets import check_net, depth_of, lanes_told, net_of_functions, net_told
from tests.books import EXAMPLE, least_of, random_tables, tables
from tests.netsets import all_bits, is_right_net, random_net, told, ways_down

AND, OR, NOT, XOR = (0, 0, 0, 1), (0, 1, 1, 1), (1, 0), (0, 1, 1, 0)


def in_all_lanes(net):
    """What a net tells for all values of its inputs."""
    many = 1 << net[0]
    columns = [sum((value >> at & 1) << value for value in range(many)) for at in reversed(range(net[0]))]
    return lanes_told(net, columns, many)


class Gathering(unittest.TestCase):
    def check(self, net, fan):
        late = gathered(net, fan)
        self.assertEqual((late[0], len(late[2])), (net[0], len(net[2])))
        check_net(late, max([fan] + [len(signals) for signals, _ in net[1]]))
        if max([0] + [len(signals) for signals, _ in net[1]]) <= 3:
            check_net(late, fan)
            self.assertTrue(is_right_net(late, fan))
        self.assertEqual(in_all_lanes(late), in_all_lanes(net))
        self.assertLessEqual(len(late[1]), len(net[1]))
        self.assertLessEqual(depth_of(late), depth_of(net))
        self.assertLessEqual(ways_down(late), ways_down(net))
        self.check_used(late)
        return late

    def check_used(self, net):
        inputs, gates, outputs = net
        asked = set(outputs)
        for at in reversed(range(len(gates))):
            self.assertIn(2 + inputs + at, asked)
            asked |= set(gates[at][0])
        # Each signal of a gate plays a part in it.
        for signals, words in gates:
            for at in range(len(signals)):
                bit = 1 << (len(signals) - 1 - at)
                self.assertTrue(any(words[value] != words[value ^ bit] for value in range(len(words))))

    def check_gathered(self, net, fan):
        """That no gate could be put into its only user any more."""
        inputs, gates, outputs = net
        for at in range(len(gates)):
            signal = 2 + inputs + at
            users = [parts for parts, _ in gates if signal in parts]
            if len(users) == 1 and signal not in outputs:
                self.assertGreater(len((set(users[0]) | set(gates[at][0])) - {signal}), fan)

    def test_the_example(self):
        table = least_of(EXAMPLE)
        late = gathered(step_net(table, 2), 4)
        self.assertEqual(net_told(late, (0, 1, 0, 0, 0)), net_told(step_net(table, 2), (0, 1, 0, 0, 0)))
        self.assertLessEqual(len(late[1]), len(step_net(table, 2)[1]))

    def test_nets_of_functions(self):
        dice = random.Random(120)
        for many in range(7):
            for _ in range(6):
                net = net_of_functions(many, [tuple(dice.randint(0, 1) for _ in range(1 << many))
                                              for _ in range(dice.randint(1, 4))])
                for fan in (3, 4, 5, 6):
                    self.check_gathered(self.check(net, fan), fan)

    def test_nets_of_tables(self):
        for table in tables() + random_tables(121, 8):
            rules = rules_in(table)
            for net in (class_net(table), step_net(table, rules), end_net(table, rules + 1)):
                for fan in (3, 4, 5, 6):
                    late = self.check(net, fan)
                    self.check_gathered(late, fan)
                    for at in (0, (1 << net[0]) - 1, 97 & (1 << net[0]) - 1):
                        bits = all_bits(net[0])[at]
                        self.assertEqual(told(late, bits), told(net, bits))

    def test_random_nets(self):
        dice = random.Random(122)
        for at in range(400):
            net = random_net(dice, dice.randint(0, 6), dice.randint(0, 25), dice.randint(0, 4))
            for fan in (3, 4, 5, 6):
                self.check_gathered(self.check(net, fan), fan)

    def test_nets_of_larger_gates(self):
        dice = random.Random(123)
        for at in range(100):
            net = random_net(dice, dice.randint(2, 6), dice.randint(1, 15), dice.randint(1, 4), 5)
            for fan in (3, 4, 5, 6):
                self.check(net, fan)

    def test_words_and_inputs_as_outputs(self):
        self.assertEqual(gathered((3, (), (0, 1, 2, 4, 4)), 3), (3, (), (0, 1, 2, 4, 4)))
        self.assertEqual(gathered((0, (), ()), 3), (0, (), ()))
        self.assertEqual(gathered((2, (((2, 3), AND),), (4, 1, 3)), 3), (2, (((2, 3), AND),), (4, 1, 3)))

    def test_gates_that_are_words(self):
        for gate in (((), (1,)), ((1,), (0, 1)), ((2, 2), (1, 0, 0, 1)), ((2, 3), (1, 1, 1, 1)), ((0, 2), (1, 1, 0, 0))):
            self.assertEqual(gathered((2, (gate,), (4,)), 3), (2, (), (1,)), gate)
        for gate in (((), (0,)), ((0,), (0, 1)), ((2, 2), XOR), ((2, 3), (0, 0, 0, 0)), ((0, 2), (0, 0, 1, 1))):
            self.assertEqual(gathered((2, (gate,), (4,)), 3), (2, (), (0,)), gate)

    def test_gates_that_are_a_signal(self):
        for gate in (((3,), (0, 1)), ((3, 3), AND), ((1, 3), AND), ((3, 0), OR), ((2, 3), (0, 1, 0, 1)),
                     ((3, 1, 2), (0, 0, 0, 0, 1, 1, 1, 1))):
            self.assertEqual(gathered((2, (gate,), (4,)), 3), (2, (), (3,)), gate)

    def test_one_signal_twice(self):
        self.assertEqual(gathered((2, (((2, 3, 2), (0, 0, 0, 0, 0, 0, 0, 1)),), (4,)), 3), (2, (((2, 3), AND),), (4,)))
        self.assertEqual(gathered((1, (((2, 2), (1, 1, 0, 0)),), (3,)), 3), (1, (((2,), NOT),), (3,)))

    def test_gates_that_nothing_uses(self):
        gates = (((2, 3), AND), ((4, 2), OR), ((2, 3), XOR), ((6, 4), AND))
        self.assertEqual(gathered((2, gates, (6,)), 3), (2, (((2, 3), XOR),), (4,)))
        self.assertEqual(gathered((2, gates, ()), 3), (2, (), ()))

    def test_equal_gates(self):
        # The second one has its signals the other way round.
        gates = (((2, 3), (0, 1, 0, 0)), ((3, 2), (0, 0, 1, 0)), ((2, 3), (0, 1, 0, 0)))
        self.assertEqual(gathered((2, gates, (4, 5, 6)), 3), (2, (((2, 3), (0, 1, 0, 0)),), (4, 4, 4)))

    def test_a_gate_in_its_only_user(self):
        gates = (((2, 3), AND), ((5, 4), OR))
        late = gathered((3, gates, (6,)), 3)
        self.assertEqual(late, (3, (((2, 3, 4), (0, 1, 0, 1, 0, 1, 1, 1)),), (5,)))
        # As an output it stays.
        self.assertEqual(len(gathered((3, gates, (5, 6)), 3)[1]), 2)
        self.assertEqual(gathered((2, (((2,), NOT), ((4, 3), AND)), (5,)), 3), (2, (((2, 3), (0, 1, 0, 0)),), (4,)))

    def test_a_row_of_gates(self):
        net = (6, tuple([((2, 3), AND)] + [((8 + at, 4 + at), AND) for at in range(4)]), (12,))
        self.assertEqual([len(self.check(net, fan)[1]) for fan in (3, 4, 5, 6)], [3, 2, 2, 1])
        self.assertEqual(self.check(net, 6), (6, ((tuple(range(2, 8)), (0,) * 63 + (1,)),), (8,)))

    def test_twice_not(self):
        self.assertEqual(gathered((1, (((2,), NOT), ((3,), NOT)), (4,)), 3), (1, (), (2,)))
        self.assertEqual(gathered((1, (((2,), NOT), ((3,), NOT), ((4,), NOT)), (5,)), 3), (1, (((2,), NOT),), (3,)))
