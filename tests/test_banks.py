import random
import unittest

from beatscan.bookreader import read_book
from beatscan.beats import cut_packet, mixed, scan
from beatscan.banks import Banked, banked_run
from beatscan.errors import BadThing
from beatscan.least import least
from beatscan.tables import run, table_of
from tests.books import EXAMPLE, any_table, least_of, random_beats, random_tables, tables


class Model:
    """Banks by the words of [25]: packets are collected, and told of when all is over, by run."""

    def __init__(self, table):
        self.banks = [(table, 0), None]
        self.force = 0
        self.many = 0
        self.loads = 0
        self.packets = []
        self.going = {}

    def load(self, table):
        flows = [packet["flow"] for packet in self.going.values() if packet["bank"] != self.force]
        if flows:
            raise BadThing(sorted(flows))
        self.loads += 1
        self.banks[1 - self.force] = (table, self.loads)

    def switch(self):
        if self.banks[1 - self.force] is None:
            raise BadThing(None)
        self.force = 1 - self.force

    def give_up(self, flow):
        self.going.pop(flow, None)

    def beat(self, told):
        flow, is_first, taken, is_last = told
        if is_first or flow not in self.going:
            self.going[flow] = {"flow": flow, "bank": self.force, "book": self.banks[self.force], "bytes": (),
                                "places": [], "end": None}
            self.packets.append(self.going[flow])
        packet = self.going[flow]
        packet["bytes"] += taken
        packet["places"] += [(self.many, lane) for lane in range(len(taken))]
        if is_last:
            packet["end"] = (self.many, len(taken))
            self.going.pop(flow)
        self.many += 1

    def reports(self):
        found = []
        for packet in self.packets:
            table, version = packet["book"]
            told = run(table, packet["bytes"])
            places = packet["places"] + ([packet["end"]] if packet["end"] else [])
            found += [(at, lane, packet["flow"], rules, version) for (at, lane), rules in zip(places, told) if rules]
        return [(at, flow, lane, rules, version) for at, lane, flow, rules, version in sorted(found)]


def done(machine, deed):
    """Does a deed, by its name; what it tells, or the error's thing."""
    word, *rest = deed
    call = {"beat": machine.beat, "load": machine.load, "switch": machine.switch, "give up": machine.give_up}[word]
    try:
        return call(*rest)
    except BadThing as e:
        return ("raised", e.thing)


def random_deeds(dice, many, books):
    deeds = []
    for beat in random_beats(dice, many, 3):
        deeds.append(("beat", beat))
        if dice.random() < 0.25:
            deeds.append(dice.choice([("load", dice.choice(books)), ("switch",), ("switch",),
                                      ("give up", dice.randint(1, 4))]))
    return deeds


class Banks(unittest.TestCase):
    one = least_of("x: ^ ab")
    other = least_of("y: ^ cd\nz: b")
    third = least_of("k: .")

    def refuse(self, thing, call, *arguments):
        with self.assertRaises(BadThing) as caught:
            call(*arguments)
        self.assertEqual(caught.exception.thing, thing)

    def test_the_example(self):
        table = least_of(EXAMPLE)
        beats = mixed([cut_packet(7, (97, 98), (1,)), cut_packet(8, (99, 97), ())], (0, 1, 0))
        other = least(table_of(read_book("z: b")))
        deeds = [("beat", beats[0]), ("load", other), ("switch",), ("beat", (9, True, (98,), True)), ("beat", beats[2])]
        self.assertEqual(banked_run(table, deeds), [(1, 9, 0, (0,), 1), (2, 7, 0, (0,), 0)])

    def test_a_new_machine(self):
        machine = Banked(self.one)
        self.assertEqual((machine.force, machine.count), (0, 0))
        self.assertEqual(machine.beat((1, True, (97, 98), True)), [(0, 1, 1, (0,), 0)])
        self.assertEqual((machine.force, machine.count), (0, 1))

    def test_without_a_switch_all_is_as_scan_says(self):
        dice = random.Random(230)
        for table in tables() + random_tables(231, 5):
            beats = random_beats(dice, 25, 3)
            deeds = [("beat", beat) for beat in beats]
            deeds.insert(dice.randint(0, 25), ("load", self.third))
            self.assertEqual(banked_run(table, deeds), [(*report, 0) for report in scan(table, beats)])

    def test_a_packet_keeps_to_its_bank(self):
        machine = Banked(self.one)
        self.assertEqual(machine.beat((1, True, (97,), False)), [])
        self.assertIsNone(machine.load(self.other))
        self.assertIsNone(machine.switch())
        self.assertEqual(machine.force, 1)
        # Flow 1 goes on in the first book, flow 2 begins in the other one.
        self.assertEqual(machine.beat((2, False, (99,), False)), [])
        self.assertEqual(machine.beat((1, False, (98,), False)), [(2, 1, 0, (0,), 0)])
        self.assertEqual(machine.beat((2, False, (100, 98), True)), [(3, 2, 0, (0,), 1), (3, 2, 1, (1,), 1)])
        self.assertEqual(machine.beat((1, False, (98,), True)), [])
        self.assertEqual(machine.beat((1, False, (98,), True)), [(5, 1, 0, (1,), 1)])

    def test_a_load_alone_changes_nothing_that_is_told(self):
        machine = Banked(self.one)
        machine.load(self.third)
        self.assertEqual(machine.beat((1, True, (97, 98, 99), True)), [(0, 1, 1, (0,), 0)])
        self.assertEqual(machine.force, 0)

    def test_a_switch_ahead_of_a_packet_that_begins_without_is_first(self):
        machine = Banked(self.one)
        machine.load(self.third)
        machine.beat((1, True, (97,), True))
        machine.switch()
        self.assertEqual(machine.beat((1, False, (98,), False)), [(1, 1, 0, (0,), 1)])

    def test_a_packet_of_no_bytes_yet_keeps_to_its_bank(self):
        machine = Banked(self.one)
        machine.beat((1, True, (), False))
        machine.load(self.third)
        machine.switch()
        self.refuse([1], machine.load, self.other)
        self.assertEqual(machine.beat((1, False, (97, 98), False)), [(1, 1, 1, (0,), 0)])

    def test_a_packet_in_state_0_keeps_to_its_bank(self):
        # Behind any byte but b the book of z: b is in state 0 again.
        machine = Banked(least_of("z: b"))
        machine.beat((1, True, (97, 98), False))
        machine.load(self.third)
        machine.switch()
        self.refuse([1], machine.load, self.one)
        self.assertEqual(machine.beat((1, False, (98,), False)), [(1, 1, 0, (0,), 0)])

    def test_load_while_packets_are_going_on(self):
        machine = Banked(self.one)
        for flow in (5, 3, 300, -2, 4):
            machine.beat((flow, True, (97,), False))
        machine.load(self.other)
        machine.beat((4, False, (), True))
        machine.switch()
        self.refuse([-2, 3, 5, 300], machine.load, self.third)
        # Flow 3 begins anew in the other bank, 5 ends, -2 is given up.
        machine.beat((3, True, (99,), False))
        self.refuse([-2, 5, 300], machine.load, self.third)
        machine.beat((5, False, (98,), True))
        self.refuse([-2, 300], machine.load, self.third)
        machine.give_up(-2)
        self.refuse([300], machine.load, self.third)
        # What was refused has changed nothing.
        self.assertEqual(machine.beat((300, False, (98,), True)), [(8, 300, 0, (0,), 0)])
        self.assertIsNone(machine.load(self.third))
        self.assertEqual(machine.beat((3, False, (100,), False)), [(9, 3, 0, (0,), 1)])
        machine.switch()
        self.assertEqual(machine.beat((9, False, (1,), True)), [(10, 9, 0, (0,), 2)])
        self.refuse([3], machine.load, self.one)

    def test_packets_of_the_bank_in_force_do_not_count(self):
        machine = Banked(self.one)
        machine.beat((1, True, (97,), False))
        machine.load(self.other)
        machine.load(self.third)
        machine.switch()
        self.assertEqual(machine.beat((2, True, (1,), True)), [(1, 2, 0, (0,), 2)])

    def test_switch_to_a_bank_without_a_table(self):
        machine = Banked(self.one)
        self.refuse(None, machine.switch)
        self.assertEqual(machine.force, 0)
        self.assertEqual(machine.beat((1, True, (97, 98), True)), [(0, 1, 1, (0,), 0)])
        machine.load(self.third)
        machine.switch()
        machine.switch()
        self.assertEqual(machine.force, 0)
        machine.switch()
        self.assertEqual(machine.force, 1)

    def test_versions(self):
        machine = Banked(self.third)
        versions = []
        for flow in range(6):
            versions += [report[4] for report in machine.beat((flow, True, (1,), True))]
            machine.load(self.third)
            if flow % 2:
                machine.load(self.third)
            machine.switch()
        # Loads 2 and 3 go into one bank ahead of the switch, and so on.
        self.assertEqual(versions, [0, 1, 3, 4, 6, 7])

    def test_a_load_that_is_refused_is_no_version(self):
        machine = Banked(self.third)
        machine.load(self.third)
        machine.beat((1, True, (1,), False))
        machine.switch()
        self.refuse([1], machine.load, self.third)
        self.refuse([1], machine.load, self.third)
        machine.give_up(1)
        machine.load(self.third)
        machine.switch()
        self.assertEqual(machine.beat((1, False, (1,), True)), [(1, 1, 0, (0,), 2)])

    def test_switching_back(self):
        machine = Banked(self.third)
        machine.load(self.one)
        machine.switch()
        machine.switch()
        self.assertEqual(machine.beat((1, True, (97, 98), True)), [(0, 1, 0, (0,), 0), (0, 1, 1, (0,), 0)])

    def test_given_up(self):
        machine = Banked(self.one)
        machine.beat((1, True, (97,), False))
        self.assertIsNone(machine.give_up(1))
        self.assertEqual(machine.beat((1, False, (98,), False)), [])
        machine.give_up(1)
        machine.give_up(1)
        machine.give_up(77)
        self.assertEqual(machine.beat((1, False, (97, 98), False)), [(2, 1, 1, (0,), 0)])
        # A next is_first gives up, too.
        machine.beat((1, True, (97,), False))
        self.assertEqual(machine.beat((1, True, (98,), True)), [])
        self.assertEqual(machine.count, 5)

    def test_tables_that_tell_of_an_empty_packet(self):
        table = ((0,) * 256, ((0,),), (((),),), ((3,),))
        machine = Banked(table)
        self.assertEqual(machine.beat((5, True, (), True)), [(0, 5, 0, (3,), 0)])
        self.assertEqual(machine.beat((5, False, (1, 2), True)), [(1, 5, 2, (3,), 0)])


class BankedRun(unittest.TestCase):
    def test_no_deeds(self):
        self.assertEqual(banked_run(Banks.one, []), [])

    def test_deeds_that_raise_are_left_out(self):
        deeds = [("switch",), ("beat", (1, True, (97,), False)), ("load", Banks.other), ("switch",), ("load", Banks.third),
                 ("beat", (1, False, (98,), False)), ("give up", 1), ("load", Banks.third), ("switch",),
                 ("beat", (1, False, (98,), True)), ("give up", 9)]
        self.assertEqual(banked_run(Banks.one, deeds), [(1, 1, 0, (0,), 0), (2, 1, 0, (0,), 2)])

    def test_against_the_model(self):
        dice = random.Random(232)
        books = tables() + random_tables(233, 4) + [any_table(dice, 5, 3, 3)]
        raised = {"load": 0, "switch": 0}
        versions = set()
        for _ in range(150):
            few = dice.sample(books, 3) + [Banks.third]
            deeds = random_deeds(dice, 30, few)
            first = dice.choice(few)
            model, machine = Model(first), Banked(first)
            reports = []
            for deed in deeds:
                told, right = done(machine, deed), done(model, deed)
                if deed[0] == "beat":
                    reports += told
                else:
                    self.assertEqual(told, right)
                    if right:
                        raised[deed[0]] += 1
                self.assertEqual((machine.force, machine.count), (model.force, model.many))
            self.assertEqual(reports, model.reports())
            self.assertEqual(banked_run(first, deeds), reports)
            versions |= {report[4] for report in reports}
        self.assertGreater(min(raised.values()), 20)
        self.assertGreater(len(versions), 5)
