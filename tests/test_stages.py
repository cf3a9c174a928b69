import random
import unittest

from beatscan.codes import class_net, end_net, rules_in, step_net
from beatscan.errors import BadThing
from beatscan.gated import Gated
from beatscan.nets import depth_of
from beatscan.stages import Staged, many_stages, registers_in, staged_run
from tests.books import EXAMPLE, least_of, random_tables, tables
from tests.netsets import random_net, told

EXAMPLE_NET = (2, (((2, 3), (0, 0, 0, 1)), ((4, 2), (0, 1, 1, 0))), (4, 5))
NOT = (1, 0)


def levels(net):
    """For each signal its level, asked for from the signal down."""
    inputs, gates, _ = net
    known = {}

    def level(signal):
        if signal < 2 + inputs:
            return 0
        if signal not in known:
            below = [level(part) for part in gates[signal - 2 - inputs][0]]
            known[signal] = 1 + max(below) if below else 1
        return known[signal]

    return [level(signal) for signal in range(2 + inputs + len(gates))]


def stage(level, most):
    return level // most + (1 if level % most else 0)


def stages_wanted(net, most):
    return max([stage(levels(net)[signal], most) for signal in net[2]] + [0])


def registers_wanted(net, most):
    """The registers by the words of [29], one signal after the other."""
    inputs, gates, outputs = net
    level = levels(net)
    many = 0
    for signal in range(2, 2 + inputs + len(gates)):
        own = 1 if signal < 2 + inputs else stage(level[signal], most)
        wanted = [stage(level[2 + inputs + at], most) for at, gate in enumerate(gates) if signal in gate[0]]
        if signal in outputs:
            wanted.append(stages_wanted(net, most))
        if wanted and max(wanted) > own:
            many += max(wanted) - own
    return many


def nets():
    dice = random.Random(250)
    found = [EXAMPLE_NET]
    for table in tables()[:12] + random_tables(251, 3):
        rules = rules_in(table)
        found += [class_net(table), step_net(table, rules), end_net(table, rules), Gated(table, 2, 4).net]
    for _ in range(60):
        found.append(random_net(dice, dice.randint(0, 5), dice.randint(0, 25), dice.randint(0, 5)))
    return found


def random_rows(dice, net, many):
    return [tuple(dice.randint(0, 1) for _ in range(net[0])) for _ in range(many)]


class Stages(unittest.TestCase):
    def test_the_example(self):
        net = EXAMPLE_NET
        self.assertEqual((many_stages(net, 1), many_stages(net, 2), staged_run(net, 1, [(1, 1), (1, 0)]),
                          registers_in(net, 2)), (2, 1, [None, (1, 0), (0, 1)], 0))
        # Input 2 and gate 4 are wanted in the second stage, too.
        self.assertEqual(registers_in(net, 1), 2)

    def test_by_an_own_reading(self):
        many = 0
        for net in nets():
            for most in (1, 2, 3, 4, 7, 50):
                self.assertEqual(many_stages(net, most), stages_wanted(net, most))
                self.assertEqual(registers_in(net, most), registers_wanted(net, most))
                many = max(many, many_stages(net, most))
            self.assertEqual(many_stages(net, 1), depth_of(net))
            self.assertEqual(registers_in(net, 1000), 0)
        self.assertGreater(many, 10)

    def test_outputs_that_are_words_or_inputs(self):
        for net in ((2, (), (0, 1, 2, 3)), (0, (), (1,)), (3, (), ()), (2, EXAMPLE_NET[1], (2, 0)), (2, EXAMPLE_NET[1], ())):
            self.assertEqual(many_stages(net, 1), 0)
        # No output wants a stage, but a gate that nothing uses wants input 2 and gate 4 in the second one.
        self.assertEqual(registers_in((2, EXAMPLE_NET[1], (2, 0)), 1), 2)
        self.assertEqual(registers_in((2, (), (0, 1, 2, 3)), 1), 0)

    def test_an_input_that_is_an_output_beside_a_late_gate(self):
        gates = tuple(((3 + at,), NOT) for at in range(5))
        net = (2, gates, (2, 8, 8, 0, 1))
        self.assertEqual(many_stages(net, 1), 5)
        # Input 2 is wanted in the last stage; each gate in the stage of the next one.
        self.assertEqual(registers_in(net, 1), 4 + 4)
        self.assertEqual((many_stages(net, 2), registers_in(net, 2)), (3, 2 + 2))
        self.assertEqual((many_stages(net, 5), registers_in(net, 5)), (1, 0))

    def test_gates_without_signals_and_without_users(self):
        # Gate 3 has no signal, gate 5 no user; input 2 is used by it alone.
        net = (1, (((), (1,)), ((3,), NOT), ((2, 4), (0, 0, 0, 1))), (4,))
        self.assertEqual((many_stages(net, 1), registers_in(net, 1)), (2, 1 + 2 + 1))
        self.assertEqual((many_stages(net, 2), registers_in(net, 2)), (1, 1 + 1))
        self.assertEqual(many_stages((0, (((), (0,)),), (2,)), 1), 1)

    def test_inputs_that_nothing_uses(self):
        self.assertEqual(registers_in((5, (((2,), NOT), ((7,), NOT)), (8,)), 1), 1)

    def test_bad_thing(self):
        for most in (0, -1, -7):
            for call in (lambda: many_stages(EXAMPLE_NET, most), lambda: registers_in(EXAMPLE_NET, most),
                         lambda: Staged(EXAMPLE_NET, most), lambda: staged_run(EXAMPLE_NET, most, []),
                         lambda: staged_run(EXAMPLE_NET, most, [(1, 1)]), lambda: many_stages((0, (), ()), most)):
                with self.assertRaises(BadThing) as caught:
                    call()
                self.assertEqual(caught.exception.thing, most)


class Clock(unittest.TestCase):
    def test_clock_by_clock(self):
        dice = random.Random(252)
        for net in nets():
            for most in (1, 2, 5):
                ahead = max(0, many_stages(net, most) - 1)
                machine = Staged(net, most)
                asked = [None] * ahead
                for bits in random_rows(dice, net, 12):
                    asked.append(bits if dice.random() < 0.7 else None)
                    right = asked[-1 - ahead]
                    self.assertEqual(machine.clock(asked[-1]), None if right is None else told(net, right))
                for _ in range(ahead + 2):
                    asked.append(None)
                    right = asked[-1 - ahead]
                    self.assertEqual(machine.clock(None), None if right is None else told(net, right))

    def test_by_hand(self):
        machine = Staged(EXAMPLE_NET, 1)
        self.assertEqual([machine.clock(bits) for bits in ((1, 1), None, (1, 0), (0, 0), None, None)],
                         [None, (1, 0), None, (0, 1), (0, 0), None])
        machine = Staged(EXAMPLE_NET, 2)
        self.assertEqual([machine.clock(bits) for bits in ((1, 1), None, (1, 0))], [(1, 0), None, (0, 1)])

    def test_no_stage(self):
        machine = Staged((2, (), (3, 0, 1, 2)), 1)
        self.assertEqual([machine.clock(bits) for bits in ((1, 0), None, (0, 1))], [(0, 0, 1, 1), None, (1, 0, 1, 0)])
        self.assertEqual(Staged((1, (), ()), 1).clock((1,)), ())
        self.assertIsNone(Staged((1, (), ()), 1).clock(None))

    def test_machines_apart(self):
        one, other = Staged(EXAMPLE_NET, 1), Staged(EXAMPLE_NET, 1)
        one.clock((1, 1))
        self.assertIsNone(other.clock((0, 0)))
        self.assertEqual((one.clock(None), other.clock(None)), ((1, 0), (0, 0)))

    def test_bits_that_are_changed_behind_the_clock(self):
        bits = [1, 1]
        machine = Staged(EXAMPLE_NET, 1)
        machine.clock(bits)
        bits[:] = [0, 0]
        self.assertEqual(machine.clock(None), (1, 0))


class Run(unittest.TestCase):
    def test_until_all_are_out(self):
        dice = random.Random(253)
        for net in nets():
            for most in (1, 2, 4):
                ahead = max(0, many_stages(net, most) - 1)
                for many in (0, 1, 2, 7):
                    rows = random_rows(dice, net, many)
                    right = [None] * ahead + [told(net, row) for row in rows] if rows else []
                    self.assertEqual(staged_run(net, most, rows), right)

    def test_no_rows(self):
        for net in (EXAMPLE_NET, (0, (), ()), (3, (), (2,))):
            self.assertEqual(staged_run(net, 1, []), [])
            self.assertEqual(staged_run(net, 1, ()), [])

    def test_the_machine_of_gates_in_stages(self):
        machine = Gated(least_of(EXAMPLE), 1, 4)
        rows = random_rows(random.Random(254), machine.net, 9)
        for most in range(1, depth_of(machine.net) + 2):
            found = [row for row in staged_run(machine.net, most, rows) if row is not None]
            self.assertEqual(found, [told(machine.net, row) for row in rows])
