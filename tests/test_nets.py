import random
import unittest

from beatscan.errors import BadNet
from beatscan.nets import (
    bits_of, check_net, depth_of, lanes_told, net_of_functions, net_told, number_of)
from tests.netsets import all_bits, is_right_net, random_net, told, ways_down

EXAMPLE = (2, (((2, 3), (0, 0, 0, 1)), ((4, 2), (0, 1, 1, 0))), (4, 5))


def random_nets(seed, many):
    dice = random.Random(seed)
    return [random_net(dice, dice.randint(0, 5), dice.randint(0, 12), dice.randint(0, 5), dice.randint(1, 4))
            for _ in range(many)]


class Told(unittest.TestCase):
    def test_the_example(self):
        self.assertEqual((net_told(EXAMPLE, (1, 1)), net_told(EXAMPLE, (1, 0)), lanes_told(EXAMPLE, (3, 1), 2),
                          depth_of(EXAMPLE), bits_of(5, 4), number_of((1, 1, 0))),
                         ((1, 0), (0, 1), (1, 2), 2, (0, 1, 0, 1), 6))

    def test_the_first_signal_is_the_greatest_bit(self):
        for at in range(8):
            words = tuple(int(at == place) for place in range(8))
            for bits in all_bits(3):
                self.assertEqual(net_told((3, (((2, 3, 4), words),), (5,)), bits), (int(number_of(bits) == at),))
                self.assertEqual(net_told((3, (((4, 2, 3), words),), (5,)), bits),
                                 (int(number_of((bits[2], bits[0], bits[1])) == at),))

    def test_words_as_signals(self):
        gates = (((0, 1), (0, 1, 0, 0)), ((1, 0), (0, 1, 0, 0)), ((1, 2), (0, 0, 0, 1)), ((2, 2), (1, 0, 0, 1)))
        net = (1, gates, (0, 1, 2, 3, 4, 5, 6))
        self.assertEqual(net_told(net, (0,)), (0, 1, 0, 1, 0, 0, 1))
        self.assertEqual(net_told(net, (1,)), (0, 1, 1, 1, 0, 1, 1))
        self.assertEqual(lanes_told(net, (6,), 4), (0, 15, 6, 15, 0, 6, 15))

    def test_gates_of_no_signal(self):
        net = (0, (((), (1,)), ((), (0,)), ((2, 3), (0, 0, 1, 0))), (2, 3, 4))
        self.assertEqual(net_told(net, ()), (1, 0, 1))
        self.assertEqual(lanes_told(net, (), 3), (7, 0, 7))

    def test_no_outputs(self):
        self.assertEqual(net_told((2, (), ()), (0, 1)), ())
        self.assertEqual(lanes_told((2, (), ()), (0, 1), 9), ())

    def test_all_inputs_in_all_lanes(self):
        for net in random_nets(100, 200):
            rows = all_bits(net[0])
            right = [told(net, bits) for bits in rows]
            self.assertEqual([net_told(net, bits) for bits in rows], right)
            columns = tuple(sum(bits[at] << lane for lane, bits in enumerate(rows)) for at in range(net[0]))
            found = lanes_told(net, columns, len(rows))
            self.assertIsInstance(found, tuple)
            self.assertEqual(found, tuple(
                sum(row[at] << lane for lane, row in enumerate(right)) for at in range(len(net[2]))))

    def test_one_lane_and_none(self):
        for net in random_nets(101, 50):
            for bits in all_bits(net[0]):
                self.assertEqual(lanes_told(net, bits, 1), told(net, bits))
            self.assertEqual(lanes_told(net, (0,) * net[0], 0), (0,) * len(net[2]))

    def test_lists_of_bits(self):
        self.assertEqual(net_told(EXAMPLE, [1, 0]), (0, 1))
        self.assertEqual(lanes_told(EXAMPLE, [3, 1], 2), (1, 2))


class Numbers(unittest.TestCase):
    def test_bits_of(self):
        self.assertEqual([bits_of(number, 2) for number in range(4)], [(0, 0), (0, 1), (1, 0), (1, 1)])
        self.assertEqual((bits_of(0, 0), bits_of(1, 1), bits_of(128, 8)), ((), (1,), (1, 0, 0, 0, 0, 0, 0, 0)))

    def test_number_of(self):
        self.assertEqual((number_of(()), number_of((0,)), number_of([1, 0, 0])), (0, 0, 4))

    def test_there_and_back(self):
        for many in range(9):
            for number in range(1 << many):
                bits = bits_of(number, many)
                self.assertEqual((len(bits), number_of(bits)), (many, number))
                self.assertEqual("".join(map(str, bits)), f"{number:0{many}b}" if many else "")


class CheckNet(unittest.TestCase):
    def refuse(self, net, fan, at):
        with self.assertRaises(BadNet) as caught:
            check_net(net, fan)
        self.assertEqual(caught.exception.at, at)

    def test_right_nets(self):
        self.assertIsNone(check_net(EXAMPLE, 2))
        self.assertIsNone(check_net((0, (), ()), 0))
        self.assertIsNone(check_net((0, (((), (1,)),), (0, 1, 2)), 0))
        for net in random_nets(102, 100):
            self.assertIsNone(check_net(net, 4))

    def test_too_many_signals(self):
        self.refuse(EXAMPLE, 1, 0)
        self.refuse((2, (((2,), (0, 1)), ((2, 3, 4), (0,) * 8)), (5,)), 2, 1)
        check_net((2, (((2,), (0, 1)), ((2, 3, 4), (0,) * 8)), (5,)), 3)

    def test_signals_that_are_not_ahead(self):
        for signal in (4, 5, 6, 100, -1, -2):
            self.refuse((2, (((2, signal), (0, 0, 0, 1)), ((2,), (0, 1))), (2,)), 3, 0)
        for signal in (5, 6, -5):
            self.refuse((2, (((2,), (0, 1)), ((2, signal), (0, 0, 0, 1)), ((3,), (0, 1))), (2,)), 3, 1)
        for signal in (0, 1, 2, 3, 4):
            check_net((2, (((2,), (0, 1)), ((2, signal), (0, 0, 0, 1))), (2,)), 3)

    def test_words(self):
        for words in ((), (0,), (0, 1), (0, 1, 1), (0, 1, 1, 0, 0), (0,) * 8, (0, 1, 2, 1), (0, -1, 0, 1),
                      (0, 0, 0, None), (0, 0, 0, "1")):
            self.refuse((2, (((2, 3), words),), (2,)), 3, 0)
        self.refuse((2, (((2, 3), (1, 0, 0, 1)), ((), ())), (2,)), 3, 1)
        self.refuse((2, (((2, 3), (1, 0, 0, 1)), ((), (0, 1))), (2,)), 3, 1)

    def test_outputs(self):
        for output in (6, 7, 100, -1):
            self.refuse((2, EXAMPLE[1], (4, output)), 2, 2)
        self.refuse((2, (), (4,)), 2, 0)
        for output in range(6):
            check_net((2, EXAMPLE[1], (output,)), 2)

    def test_the_first_wrong_gate_then_the_outputs(self):
        wrong = (((2, 3), (0, 0, 0)), ((9,), (0, 1)), ((2, 2, 2), (0,) * 8))
        self.refuse((2, wrong, (99,)), 2, 0)
        self.refuse((2, EXAMPLE[1] + wrong[1:], (99,)), 2, 2)
        self.refuse((2, EXAMPLE[1] + wrong[2:] + wrong[:2], (99,)), 2, 2)
        self.refuse((2, EXAMPLE[1], (99,)), 2, 2)

    def test_nets_changed_at_one_place(self):
        dice = random.Random(103)
        found = {True: 0, False: 0}
        for net in random_nets(104, 300):
            inputs, gates, outputs = net
            if not gates:
                continue
            at = dice.randrange(len(gates))
            signals, words = gates[at]
            gate = dice.choice([
                (signals + (dice.randrange(2 + inputs + len(gates)),), words * 2), (signals, words + (0,)),
                (signals[:-1] + (dice.randrange(-1, 4 + inputs + len(gates)),) * len(signals[-1:]), words),
                (signals, words[:-1] + (dice.randrange(3),))])
            changed = (inputs, gates[:at] + (gate,) + gates[at + 1:], outputs)
            found[is_right_net(changed, 4)] += 1
            if is_right_net(changed, 4):
                check_net(changed, 4)
            else:
                self.refuse(changed, 4, at)
        self.assertGreater(min(found.values()), 30)

    def test_errors_tell_why(self):
        with self.assertRaises(BadNet) as caught:
            check_net(EXAMPLE, 1)
        self.assertTrue(hasattr(caught.exception, "why"))


class Depth(unittest.TestCase):
    def test_by_hand(self):
        self.assertEqual(depth_of((3, (), (0, 1, 2, 3))), 0)
        self.assertEqual(depth_of((0, (), ())), 0)
        self.assertEqual(depth_of((0, (((), (1,)),), (2,))), 1)
        self.assertEqual(depth_of((1, (((2,), (0, 1)), ((3,), (0, 1)), ((2, 4), (0, 1, 1, 0))), (3, 5, 4))), 3)

    def test_gates_that_no_output_needs(self):
        gates = (((2,), (0, 1)), ((3,), (0, 1)), ((4,), (0, 1)), ((2,), (1, 0)))
        self.assertEqual([depth_of((1, gates, (output,))) for output in range(7)], [0, 0, 0, 1, 2, 3, 1])
        self.assertEqual(depth_of((1, gates, ())), 0)

    def test_all_ways_down(self):
        for net in random_nets(105, 200):
            self.assertEqual(depth_of(net), ways_down(net))


class Functions(unittest.TestCase):
    def check(self, many, functions):
        net = net_of_functions(many, functions)
        self.assertEqual((net[0], len(net[2])), (many, len(functions)))
        check_net(net, 3)
        self.assertTrue(is_right_net(net, 3))
        self.assertLessEqual(depth_of(net), many)
        for at, bits in enumerate(all_bits(many)):
            self.assertEqual(net_told(net, bits), tuple(words[at] for words in functions))
        return net

    def test_none(self):
        for many in range(4):
            self.assertEqual(self.check(many, []), (many, (), ()))

    def test_of_no_bit(self):
        self.check(0, [(0,)])
        self.check(0, [(1,), (0,), (1,)])

    def test_all_functions_of_few_bits(self):
        for many in range(4):
            for words in all_bits(1 << many):
                self.check(many, [words])
        self.check(2, all_bits(4))

    def test_several_of_several_bits(self):
        dice = random.Random(106)
        for many in range(1, 8):
            for _ in range(8):
                self.check(many, [tuple(dice.randint(0, 1) for _ in range(1 << many)) for _ in range(dice.randint(1, 5))])
                self.check(many, [tuple(int(number >= place) for number in range(1 << many))
                                  for place in (0, 1, dice.randrange(1 << many), 1 << many)])

    def test_equal_ones_are_shared(self):
        words = (0, 1, 1, 0, 1, 0, 0, 1)
        self.assertEqual(len(self.check(3, [words] * 5)[1]), len(self.check(3, [words])[1]))
        # The halves of both are the same two functions.
        one, other = (0, 1, 1, 0, 1, 1, 1, 0), (1, 1, 1, 0, 0, 1, 1, 0)
        self.assertLessEqual(len(self.check(3, [one, other])[1]), len(self.check(3, [one])[1]) + 1)

    def test_a_bit_that_plays_no_part(self):
        net = self.check(4, [(0, 0, 1, 1) * 4, (0,) * 8 + (1,) * 8, (0,) * 16, (1,) * 16])
        self.assertEqual(net, (4, (), (4, 2, 0, 1)))

    def test_no_more_choices_than_there_are_functions(self):
        # The sum of all bits has, of each number of bits, only two functions that are unlike.
        words = tuple(bin(number).count("1") & 1 for number in range(256))
        self.assertLessEqual(len(self.check(8, [words])[1]), 2 * 8 - 1)

    def test_lists_of_words(self):
        self.assertEqual(net_of_functions(1, [[0, 1], [1, 1]]), net_of_functions(1, ((0, 1), (1, 1))))
