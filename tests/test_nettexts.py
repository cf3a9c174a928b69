import random
import unittest

from beatscan.codes import class_net, end_net, rules_in, step_net
from beatscan.errors import BadText
from beatscan.gated import Gated
from beatscan.nettexts import net_by, net_text
from tests.books import random_tables, tables
from tests.netsets import random_net

RIGHT = "inputs 2\ngate 0001 2 3\ngate 0110 4 2\noutputs 4 5"
NET = (2, (((2, 3), (0, 0, 0, 1)), ((4, 2), (0, 1, 1, 0))), (4, 5))


class Texts(unittest.TestCase):
    def test_the_example(self):
        self.assertEqual(net_text(NET), RIGHT)
        self.assertEqual(net_by(net_text(NET)), NET)

    def test_by_hand(self):
        for net, text in (((0, (), ()), "inputs 0\noutputs"), ((3, (), (4, 0, 1, 2)), "inputs 3\noutputs 4 0 1 2"),
                          ((0, (((), (1,)), ((), (0,))), (3, 2)), "inputs 0\ngate 1\ngate 0\noutputs 3 2"),
                          ((1, (((2,), (1, 0)),), ()), "inputs 1\ngate 10 2\noutputs"),
                          ((12, (((13, 0, 1, 2), (0, 1) * 8),), (14, 14)),
                           "inputs 12\ngate 0101010101010101 13 0 1 2\noutputs 14 14")):
            self.assertEqual(net_text(net), text)
            self.assertEqual(net_by(text), net)

    def test_there_and_back(self):
        dice = random.Random(260)
        found = [random_net(dice, dice.randint(0, 6), dice.randint(0, 30), dice.randint(0, 6), 6) for _ in range(150)]
        for table in tables() + random_tables(261, 4):
            rules = rules_in(table)
            found += [class_net(table), step_net(table, rules), end_net(table, rules), Gated(table, 2, 5).net]
        for net in found:
            text = net_text(net)
            self.assertEqual(net_by(text), net)
            lines = text.split("\n")
            self.assertEqual(len(lines), len(net[1]) + 2)
            self.assertEqual([line for line in lines if line.strip() != line or "  " in line], [])

    def test_signals_need_not_stand_ahead(self):
        self.assertEqual(net_by("inputs 0\ngate 01 999999\noutputs 123456"), (0, (((999999,), (0, 1)),), (123456,)))
        self.assertEqual(net_by("inputs 999999\noutputs"), (999999, (), ()))

    def test_kinds_of_what_is_read(self):
        inputs, gates, outputs = net_by(RIGHT)
        self.assertTrue(type(inputs) is int and type(gates) is tuple and type(outputs) is tuple)
        for signals, words in gates:
            self.assertTrue(type(signals) is tuple and type(words) is tuple)
            self.assertTrue(all(type(part) is int for part in signals + words))


class Wrong(unittest.TestCase):
    def refuse(self, text, line, column):
        with self.assertRaises(BadText) as caught:
            net_by(text)
        self.assertEqual((caught.exception.line, caught.exception.column), (line, column), text)

    def test_no_string(self):
        for thing in (None, 5, b"inputs 0\noutputs", ["inputs 0", "outputs"], NET):
            self.refuse(thing, 0, 0)

    def refuse_lines(self, cases, *around):
        """Each case is a line and the column at which it is wrong; it stands between the lines around it."""
        ahead, behind = around
        for line, column in cases:
            text = "\n".join([*ahead, line, *behind])
            self.refuse(text, len(ahead) + 1, column)

    def test_the_line_of_the_inputs(self):
        self.refuse_lines([
            ("", 1), (" ", 1), ("input 2", 1), ("Inputs 2", 1), ("outputs", 1), ("gate 1", 1), ("inputs", 7), ("inputs ", 8),
            ("inputs x", 8), ("inputs -1", 8), ("inputs +1", 8), ("inputs 2 3", 10), ("inputs 2 ", 10), ("inputs  2", 8),
            (" inputs 2", 1), ("inputs 02", 8), ("inputs 00", 8), ("inputs 1234567", 8), ("inputs 1_0", 8),
            ("inputs 2x", 8), ("inputs\t2", 1), ("inputs 2\r", 8), ("inputs \u0662", 8), ("inputs \u00b2", 8),
            ("inputs 999999 1", 15), ("inputs2", 1), ("inputs x y", 8),
        ], [], ["gate 0001 2 3", "outputs 4"])

    def test_the_line_of_a_gate(self):
        self.refuse_lines([
            ("", 1), ("gates 01 2", 1), ("inputs 2", 1), ("01 2", 1), (" gate 01 2", 1), ("gate", 5), ("gate ", 6),
            ("gate  01 2", 6), ("gate 02 2", 6), ("gate 0x 2", 6), ("gate x", 6), ("gate 01 2 ", 11), ("gate 01  2", 9),
            ("gate 1 ", 8), ("gate 01 x", 9), ("gate 01 -2", 9), ("gate 01 02", 9), ("gate 01 1234567", 9),
            ("gate 0001 2 3x", 13), ("gate 0001 2  3", 13), ("gate 0001 2 3 ", 15), ("gate 0001 2 \u0663", 13),
            # Words and signals that don't go together.
            ("gate 01", 6), ("gate 0001 2", 6), ("gate 0001", 6), ("gate 0001 2 3 4", 6), ("gate 1 2", 6), ("gate 01 2 3", 6),
            ("gate 011 2", 6), ("gate 011 2 3", 6), ("gate 00010001 2 3", 6), ("gate 000 2 3", 6),
        ], ["inputs 2"], ["gate 0110 4 2", "outputs 4 5"])

    def test_the_line_of_the_outputs(self):
        self.refuse_lines([
            ("output 4", 1), (" outputs 4", 1), ("outputs ", 9), ("outputs  4", 9), ("outputs 4 ", 11), ("outputs 4  5", 11),
            ("outputs x", 9), ("outputs 4 x", 11), ("outputs 4 05", 11), ("outputs 4 5 1234567 x", 13), ("Outputs", 1),
            ("outputs 4,5", 9), ("outputs -4", 9),
        ], ["inputs 2", "gate 0001 2 3"], [])

    def test_a_line_behind_the_outputs(self):
        for line in ("", " ", "gate 1", "outputs 4 5", "inputs 2", "x y", " x"):
            self.refuse(RIGHT + "\n" + line, 5, 1)
            self.refuse(RIGHT + "\n" + line + "\nmore", 5, 1)
        self.refuse("inputs 0\noutputs\n", 3, 1)

    def test_no_outputs(self):
        self.refuse("inputs 2", 2, 1)
        self.refuse("inputs 2\ngate 0001 2 3", 3, 1)
        self.refuse("\n".join(RIGHT.split("\n")[:3]), 4, 1)

    def test_several_wrong_lines(self):
        self.refuse("inputs 2\ngate 01 x\ngate", 2, 9)
        self.refuse("inputs\ngate 01 x\noutputs y", 1, 7)
        self.refuse("inputs 2\ngate 01 2\noutputs y\nz", 3, 9)
        self.refuse("inputs x\n", 1, 8)
        self.refuse("inputs 2\ngate 1 x", 2, 8)
        self.refuse("x\n" + RIGHT, 1, 1)

    def test_the_numbers_of_lines(self):
        for at in range(2, 60):
            self.refuse("inputs 1\n" + "gate 10 2\n" * (at - 2) + "gate 10 2 2\noutputs", at, 6)

    def test_six_figures(self):
        self.assertEqual(net_by("inputs 100000\ngate 10 999999\noutputs 0 999999")[0], 100000)
        self.refuse("inputs 1000000\noutputs", 1, 8)
        self.refuse("inputs 1\noutputs 0000001", 2, 9)
