import random
import unittest

from beatscan.beats import cut_packet, mixed, scan
from beatscan.bookreader import read_book
from beatscan.codes import class_net, end_net, rules_in, state_bits, step_net
from beatscan.errors import BadThing
from beatscan.gated import Gated
from beatscan.netchecks import check_nets
from beatscan.nets import check_net, net_told
from beatscan.tables import table_of
from tests.books import EXAMPLE, TEXTS, least_of, random_beats, random_tables, tables
from tests.netsets import told


class GatedMachine(unittest.TestCase):
    def test_the_example(self):
        table = least_of(EXAMPLE)
        beats = mixed([cut_packet(7, (97, 98), (1,)), cut_packet(8, (99, 97), ())], (0, 1, 0))
        self.assertEqual(Gated(table, 2, 4).scan(beats), [(1, 8, 2, (1,)), (2, 7, 0, (0,))])

    def test_against_the_table(self):
        dice = random.Random(150)
        many = 0
        for table in tables() + random_tables(151, 6):
            for width in (1, 2, 3, 4):
                for fan in dice.sample((3, 4, 5, 6), 2):
                    beats = random_beats(dice, 25, width)
                    reports = Gated(table, width, fan).scan(beats)
                    self.assertEqual(reports, scan(table, beats))
                    many += len(reports)
        self.assertGreater(many, 300)

    def test_tables_that_are_not_least(self):
        dice = random.Random(152)
        for text in TEXTS[:14]:
            table = table_of(read_book(text))
            beats = random_beats(dice, 30, 2)
            self.assertEqual(Gated(table, 2, 5).scan(beats), scan(table, beats))

    def test_nets(self):
        for table in tables():
            for fan in (3, 4, 5, 6):
                machine = Gated(table, 2, fan)
                rules = rules_in(table)
                self.assertEqual(machine.bits, state_bits(table))
                self.assertEqual(len(machine.nets), 3)
                check_nets(machine.nets, table, fan, rules)
                check_net(machine.net, fan)
                self.assertEqual((machine.net[0], len(machine.net[2])), (19 + machine.bits, machine.bits + 3 * rules))
                plain = (class_net(table), step_net(table, rules), end_net(table, rules))
                for net, other in zip(machine.nets, plain):
                    self.assertLessEqual(len(net[1]), len(other[1]))

    def test_fan_plays_a_part(self):
        table = least_of(TEXTS[8])
        many = [len(Gated(table, 1, fan).net[1]) for fan in (3, 4, 5, 6)]
        self.assertEqual(many, sorted(many, reverse=True))
        self.assertLess(many[3], many[0])

    def test_the_net_is_what_tells(self):
        table = least_of("x: ^ ab")
        machine = Gated(table, 1, 3)
        bits = (1, 0, 1, 1, 0, 0, 0, 0, 1, 0) + (0,) * machine.bits
        self.assertEqual(net_told(machine.net, bits), told(machine.net, bits))
        self.assertEqual(machine.scan([(1, True, (97,), False), (1, False, (98,), True)]), [(1, 1, 0, (0,))])

    def test_beats_of_fewer_bytes(self):
        table = least_of(EXAMPLE)
        for beats in ([(1, True, (), False), (1, False, (99,), False), (1, False, (), False), (1, False, (97,), True)],
                      [(1, True, (99, 97), False), (1, False, (), True)], [(1, True, (), True)]):
            self.assertEqual(Gated(table, 5, 3).scan(beats), scan(table, beats))

    def test_two_calls_one_behind_the_other(self):
        dice = random.Random(153)
        for table in tables():
            beats = random_beats(dice, 40, 2)
            machine = Gated(table, 2, 4)
            for cut in (13, 14, 40):
                machine = Gated(table, 2, 4)
                first, second = machine.scan(beats[:cut]), machine.scan(beats[cut:])
                found = first + [(at + cut, *rest) for at, *rest in second]
                self.assertEqual(found, scan(table, beats))

    def test_the_store_stays_and_beats_count_from_0(self):
        machine = Gated(least_of("x: ^ abc\ny: ^ d $"), 1, 3)
        self.assertEqual(machine.scan([(1, True, (97,), False), (2, True, (97,), False)]), [])
        self.assertEqual(machine.scan([(1, False, (98,), False), (2, False, (98,), True)]), [])
        self.assertEqual(machine.scan([(2, False, (99,), False), (1, False, (99,), False), (2, False, (), True)]),
                         [(1, 1, 0, (0,))])
        self.assertEqual(machine.scan([]), [])
        self.assertEqual(machine.scan([(2, False, (100,), True)]), [(0, 2, 1, (1,))])

    def test_machines_do_not_share_their_stores(self):
        table = least_of("x: ^ ab")
        one, other = Gated(table, 1, 3), Gated(table, 1, 3)
        one.scan([(1, True, (97,), False)])
        self.assertEqual(other.scan([(1, False, (98,), True)]), [])
        self.assertEqual(one.scan([(1, False, (98,), True)]), [(0, 1, 0, (0,))])

    def test_width_and_fan(self):
        table = least_of("x: a")
        for width, fan in ((0, 3), (-1, 4), (1, 2), (1, 7), (2, 0), (2, -3), (0, 7), (3, 100)):
            with self.assertRaises(BadThing) as caught:
                Gated(table, width, fan)
            self.assertEqual(caught.exception.thing, (width, fan))
        for width, fan in ((1, 3), (1, 6), (7, 3)):
            self.assertEqual(Gated(table, width, fan).scan([(1, True, (97,), True)]), [(0, 1, 0, (0,))])
