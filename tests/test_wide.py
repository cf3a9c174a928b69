import itertools
import random
import unittest

from beatscan.codes import class_net, end_net, rules_in, state_bits, step_net
from beatscan.gathering import gathered
from beatscan.nets import bits_of, check_net, net_told
from beatscan.tables import step
from beatscan.wide import wide_net
from tests.books import EXAMPLE, SIGNS, least_of, random_tables, tables

SMALL = [table for table in tables() + random_tables(140, 8) if len(table[1]) <= 12]


def nets_of(table, rules):
    return (class_net(table), step_net(table, rules), end_net(table, rules))


def marks(rules, many):
    return tuple(int(rule in rules) for rule in range(many))


def right_outputs(table, rules, lanes, is_last, state):
    """What a wide net should tell: lanes are bytes, or None where there is none."""
    told = ()
    for byte in lanes:
        found = ()
        if byte is not None:
            state, found = step(table, state, byte)
        told += marks(found, rules)
    told += marks(table[3][state] if is_last else (), rules)
    return bits_of(state, state_bits(table)) + told


def asked(lanes, is_last, state, bits, others=()):
    """The inputs; where there is no byte the 8 bits are those of others."""
    found = ()
    for at, byte in enumerate(lanes):
        found += (0, *bits_of(others[at] if others else 0, 8)) if byte is None else (1, *bits_of(byte, 8))
    return (*found, int(is_last), *bits_of(state, bits))


class Wide(unittest.TestCase):
    def test_the_example(self):
        table = least_of(EXAMPLE)
        nets = nets_of(table, 2)
        wide = wide_net(nets, 2, 3)
        bits = (1,) + bits_of(97, 8) + (1,) + bits_of(98, 8) + (1, 0, 0, 0)
        self.assertEqual((wide[0], len(wide[2]), net_told(wide, bits)[3:]), (22, 9, (0, 0, 1, 0, 0, 0)))

    def test_numbers_of_inputs_and_outputs(self):
        for table in SMALL:
            bits = state_bits(table)
            for rules in (rules_in(table), rules_in(table) + 1):
                for width in range(1, 5):
                    wide = wide_net(nets_of(table, rules), width, bits)
                    self.assertEqual((wide[0], len(wide[2])), (9 * width + 1 + bits, bits + rules * (width + 1)))
                    check_net(wide, 3)

    def test_gates_have_no_more_signals(self):
        for table in SMALL:
            rules = rules_in(table)
            for fan in (3, 4, 5, 6):
                nets = [gathered(net, fan) for net in nets_of(table, rules)]
                most = max([3] + [len(signals) for net in nets for signals, _ in net[1]])
                check_net(wide_net(nets, 2, state_bits(table)), most)

    def test_each_lane_from_all_states(self):
        dice = random.Random(141)
        for table in SMALL:
            rules, bits = rules_in(table), state_bits(table)
            nets = nets_of(table, rules)
            for width in range(1, 5):
                wide = wide_net(nets, width, bits)
                for state in range(len(table[1])):
                    for is_there in itertools.product((True, False), repeat=width):
                        lanes = [dice.choice(SIGNS) if there else None for there in is_there]
                        for is_last in (False, True):
                            self.assertEqual(net_told(wide, asked(lanes, is_last, state, bits)),
                                             right_outputs(table, rules, lanes, is_last, state))

    def test_each_byte_on_each_lane(self):
        table = least_of(EXAMPLE)
        wide = wide_net(nets_of(table, 2), 2, 3)
        for byte in range(256):
            for lanes in ((byte, None), (None, byte), (byte, byte)):
                for state in (0, 1, 6):
                    self.assertEqual(net_told(wide, asked(lanes, True, state, 3)),
                                     right_outputs(table, 2, lanes, True, state))

    def test_bits_of_a_lane_without_a_byte_play_no_part(self):
        dice = random.Random(142)
        for table in SMALL:
            rules, bits = rules_in(table), state_bits(table)
            wide = wide_net(nets_of(table, rules), 3, bits)
            for _ in range(20):
                lanes = [dice.choice((None, None, 97, 98)) for _ in range(3)]
                state, is_last = dice.randrange(len(table[1])), dice.random() < 0.5
                right = right_outputs(table, rules, lanes, is_last, state)
                for _ in range(4):
                    others = [dice.choice(SIGNS) for _ in range(3)]
                    self.assertEqual(net_told(wide, asked(lanes, is_last, state, bits, others)), right)

    def test_the_state_stays_behind_the_last_byte_at_the_end(self):
        table = least_of("x: ^ abc $")
        wide = wide_net(nets_of(table, 1), 1, state_bits(table))
        found = net_told(wide, asked((97,), True, 0, state_bits(table)))
        self.assertEqual(found[:state_bits(table)], bits_of(step(table, 0, 97)[0], state_bits(table)))

    def test_nets_by_hand(self):
        # A class for odd bytes; the state holds whether the last one was, the rule that two were, the end that one was.
        class_one = (8, (), (9,))
        step_one = (2, (((2, 3), (0, 0, 0, 1)),), (2, 4))
        end_one = (1, (), (2,))
        wide = wide_net((class_one, step_one, end_one), 2, 1)
        for state in (0, 1):
            for lanes in itertools.product((None, 4, 7), repeat=2):
                for is_last in (False, True):
                    now, told = state, []
                    for byte in lanes:
                        told.append(int(byte == 7 and now == 1))
                        now = now if byte is None else byte % 2
                    self.assertEqual(net_told(wide, asked(lanes, is_last, state, 1)), (now, *told, now & is_last))
