import copy
import random
import unittest

from beatscan.beats import cut_packet, mixed, scan
from beatscan.clocks import Clocked, fed, most_clocks
from beatscan.errors import BadThing
from beatscan.tables import state_behind
from tests.books import EXAMPLE, TEXTS, any_table, least_of, random_beats, random_packet, tables

# Rule 0 at each byte, rule 1 at each end: a beat tells as many reports as it can.
LOUD = ((0,) * 256, ((0,),), (((0,),),), ((1,),))


def still_to_come(machine):
    """What a copy of a machine puts out, to the last report, if it is offered nothing more."""
    other = copy.deepcopy(machine)
    ahead = len(other.out)
    for _ in range(len(other.row) + 2 * other.width + 6):
        other.clock(None, True)
    assert other.is_empty()
    return other.out[ahead:]


def states_behind(table, worked):
    """For each flow of beats that were worked the state behind its bytes, 0 behind a packet's end."""
    bytes_of = {}
    for flow, is_first, taken, is_last in worked:
        ahead = () if is_first else bytes_of.get(flow, ())
        bytes_of[flow] = () if is_last else ahead + taken
    return {flow: state_behind(table, packet) for flow, packet in bytes_of.items()}


def inside(machine):
    return (machine.first, machine.second, list(machine.row), dict(machine.store), machine.taken)


class Watched:
    """A machine of which is looked at each clock whether all is as [24] says."""

    def __init__(self, test, table, width, size):
        self.test = test
        self.table = table
        self.machine = Clocked(table, width, size)
        self.taken = []
        # The beats that are in the stages, the last one in the first stage.
        self.stages = [None, None]
        self.worked = []

    def clock(self, beat, is_ready):
        test, machine = self.test, self.machine
        out = machine.out + machine.row[:1] if is_ready else list(machine.out)
        row = machine.row[1:] if is_ready else list(machine.row)
        has_room = machine.size - len(row) >= machine.width + 1
        before = inside(machine)
        test.assertIs(machine.clock(beat, is_ready), has_room)
        test.assertEqual(machine.out, out)
        test.assertEqual(machine.row[:len(row)], row)
        test.assertLessEqual(len(machine.row), machine.size)
        if has_room:
            self.stages.append(beat)
            worked = self.stages.pop(0)
            self.worked += [] if worked is None else [worked]
            self.taken += [] if beat is None else [beat]
        else:
            test.assertEqual(inside(machine), before[:2] + (row,) + before[3:])
        self.check()
        return has_room

    def check(self):
        test, machine = self.test, self.machine
        test.assertEqual(machine.taken, len(self.taken))
        test.assertEqual(machine.out + machine.row, scan(self.table, self.worked))
        test.assertEqual(machine.out + machine.row + still_to_come(machine)[len(machine.row):],
                         scan(self.table, self.taken))
        test.assertEqual([machine.second is None, machine.first is None], [beat is None for beat in self.stages])
        test.assertIs(machine.is_empty(), self.stages == [None, None] and machine.row == [])
        test.assertEqual(machine.store, states_behind(self.table, self.worked))


def readers(dice, many):
    """Readers of all kinds: ready always, never for long, now and then, mostly, hardly ever."""
    return [[], [True] * many, [False] * many, [at % 2 == 0 for at in range(many)], [at % 5 == 4 for at in range(many)],
            [dice.random() < 0.8 for _ in range(many)], [dice.random() < 0.2 for _ in range(many)]]


class Clocks(unittest.TestCase):
    def test_the_example(self):
        table = least_of(EXAMPLE)
        beats = mixed([cut_packet(7, (97, 98), (1,)), cut_packet(8, (99, 97), ())], (0, 1, 0))
        machine = Clocked(table, 2, 3)
        self.assertLessEqual(fed(machine, beats, [False, False]), most_clocks(2, beats, [False, False]))
        self.assertEqual((machine.out, machine.taken, machine.is_empty()),
                         ([(1, 8, 2, (1,)), (2, 7, 0, (0,))], 3, True))

    def test_a_new_machine(self):
        machine = Clocked(least_of(EXAMPLE), 2, 3)
        self.assertEqual((machine.store, machine.first, machine.second, machine.row, machine.out, machine.taken),
                         ({}, None, None, [], [], 0))
        self.assertIs(machine.is_empty(), True)
        other = Clocked(least_of(EXAMPLE), 2, 3)
        fed(other, [(1, True, (97, 98), True)], [])
        self.assertEqual((machine.store, machine.row, machine.out), ({}, [], []))

    def test_clock_by_clock(self):
        machine = Clocked(LOUD, 1, 4)
        beat = (5, True, (9,), True)
        self.assertIs(machine.clock(beat, True), True)
        self.assertFalse(machine.first is None)
        self.assertEqual((machine.second, machine.row, machine.taken), (None, [], 1))
        self.assertIs(machine.clock(None, True), True)
        self.assertFalse(machine.second is None)
        self.assertEqual((machine.first, machine.row, machine.store), (None, [], {}))
        self.assertIs(machine.clock(None, True), True)
        reports = [(0, 5, 0, (0,)), (0, 5, 1, (1,))]
        self.assertEqual((machine.second, machine.row, machine.out, machine.store), (None, reports, [], {5: 0}))
        self.assertIs(machine.is_empty(), False)
        self.assertIs(machine.clock(None, False), True)
        self.assertEqual((machine.row, machine.out), (reports, []))
        self.assertIs(machine.clock(None, True), True)
        self.assertEqual((machine.row, machine.out), (reports[1:], reports[:1]))
        self.assertIs(machine.clock(None, True), True)
        self.assertEqual((machine.row, machine.out, machine.taken), ([], reports, 1))
        self.assertIs(machine.is_empty(), True)

    def test_room(self):
        # Each beat tells two reports; a clock goes on where at most size - 2 wait.
        for size in (2, 3, 4, 5):
            machine = Clocked(LOUD, 1, size)
            for at in range(2 + size // 2):
                self.assertIs(machine.clock((1, True, (at,), True), False), True)
            self.assertEqual(len(machine.row), size // 2 * 2)
            for _ in range(3):
                self.assertIs(machine.clock((1, True, (9,), True), False), False)
                self.assertIs(machine.clock(None, False), False)
            self.assertEqual((machine.taken, len(machine.row), machine.out), (2 + size // 2, size // 2 * 2, []))
            # One report goes out, and there is room if one place was free ahead.
            self.assertIs(machine.clock(None, True), size % 2 == 1)
            self.assertEqual(len(machine.out), 1)

    def test_a_reader_that_is_ready_makes_room_in_the_same_clock(self):
        machine = Clocked(((0,) * 256, ((0,),), (((0,),),), ((),)), 1, 2)
        for at in range(3):
            self.assertIs(machine.clock((1, False, (at,), False), False), True)
        self.assertEqual(len(machine.row), 1)
        self.assertIs(machine.clock((1, False, (3,), False), False), False)
        self.assertIs(machine.clock((1, False, (3,), False), True), True)
        self.assertEqual((len(machine.row), len(machine.out), machine.taken), (1, 1, 4))

    def test_one_flow_behind_itself(self):
        table = least_of("x: ^ abcdef $")
        for gap in ([], [None], [None, None], [(2, True, (97,), False)], [(2, True, (97,), False), None],
                    [None, (2, False, (98,), True)], [(2, False, (97,), False), (3, False, (97,), True)]):
            machine = Watched(self, table, 1, 2)
            for byte in range(97, 103):
                self.assertTrue(machine.clock((1, False, (byte,), byte == 102), True))
                for beat in gap:
                    self.assertTrue(machine.clock(beat, True))
            for _ in range(4):
                machine.clock(None, True)
            number = 5 * (1 + len([beat for beat in gap if beat]))
            self.assertEqual(machine.machine.out, [(number, 1, 1, (0,))])

    def test_two_flows_in_turn(self):
        table = least_of("x: ^ abcd\ny: ^ dcba $")
        machine = Watched(self, table, 1, 2)
        for one, other in zip(b"abcd", b"dcba"):
            machine.clock((1, one == 97, (one,), False), True)
            machine.clock((2, False, (other,), other == 97), True)
        for _ in range(4):
            machine.clock(None, True)
        self.assertEqual(machine.machine.out, [(6, 1, 0, (0,)), (7, 2, 1, (1,))])

    def test_clock_by_clock_for_all_kinds_of_streams(self):
        dice = random.Random(220)
        waits = 0
        for table in tables() + [LOUD, any_table(dice, 7, 4, 3)]:
            width = dice.randint(1, 3)
            size = width + dice.choice((1, 1, 2, 5))
            machine = Watched(self, table, width, size)
            beats = random_beats(dice, 12, width, flows=(1, 2))
            ready = dice.choice((0.2, 0.5, 0.9))
            while beats:
                beat = None if dice.random() < 0.2 else beats[0]
                if machine.clock(beat, dice.random() < ready):
                    beats = beats[1:] if beat else beats
                else:
                    waits += 1
        self.assertGreater(waits, 10)

    def test_width_and_size(self):
        table = least_of("x: a")
        for width, size in ((0, 5), (-1, 5), (1, 1), (1, 0), (1, -3), (2, 2), (4, 4), (4, 1), (0, 0), (0, 1), (60, 60)):
            with self.assertRaises(BadThing) as caught:
                Clocked(table, width, size)
            self.assertEqual(caught.exception.thing, (width, size))
        for width, size in ((1, 2), (2, 3), (3, 4), (4, 50), (60, 61)):
            machine = Clocked(table, width, size)
            fed(machine, [(1, True, (97,), True)], [])
            self.assertEqual(machine.out, [(0, 1, 0, (0,))])


class Fed(unittest.TestCase):
    def check(self, table, width, size, beats, readies):
        machine = Clocked(table, width, size)
        clocks = fed(machine, beats, readies)
        self.assertEqual(machine.out, scan(table, beats))
        self.assertEqual(machine.taken, len(beats))
        self.assertIs(machine.is_empty(), True)
        self.assertLessEqual(clocks, most_clocks(width, beats, readies))
        return clocks

    def test_most_clocks(self):
        self.assertEqual(most_clocks(2, [(1, True, (), True)] * 3, [True, False]), 18)
        self.assertEqual(most_clocks(1, [], []), 4)
        self.assertEqual(most_clocks(4, ((1, True, (), True),), ()), 10)

    def test_no_beats(self):
        self.assertEqual(self.check(LOUD, 1, 2, [], []), 0)
        self.assertEqual(self.check(LOUD, 1, 2, [], [False] * 9), 0)

    def test_how_many_clocks(self):
        beat = (1, True, (97,), True)
        silent = least_of("")
        # A beat is taken, moves, is worked.
        self.assertEqual(self.check(silent, 1, 2, [beat], []), 3)
        self.assertEqual(self.check(silent, 1, 2, [beat] * 5, [False] * 3), 7)
        # Two reports go out behind it, a clock each.
        self.assertEqual(self.check(LOUD, 1, 2, [beat], []), 5)
        self.assertEqual(self.check(LOUD, 1, 2, [beat], [False] * 10), 12)
        self.assertEqual(self.check(LOUD, 1, 2, [beat], [False] * 3 + [True, False, True, False]), 6)
        self.assertEqual(self.check(LOUD, 1, 2, [beat] * 4, []), 3 + 4 * 2)

    def test_a_machine_that_goes_on(self):
        table = least_of(EXAMPLE)
        machine = Clocked(table, 2, 3)
        beats = [(1, True, (97,), False), (2, True, (99,), False), (1, False, (98, 98), False), (2, False, (97,), True)]
        fed(machine, beats[:2], [])
        self.assertEqual(machine.store, {1: state_behind(table, (97,)), 2: state_behind(table, (99,))})
        fed(machine, beats[2:], [False])
        self.assertEqual(machine.out, scan(table, beats))
        self.assertEqual(machine.taken, 4)

    def test_streams_and_readers_of_all_kinds(self):
        dice = random.Random(221)
        many = 0
        for table in tables() + [LOUD, any_table(dice, 9, 3, 4)]:
            for width in (1, 2, 4):
                beats = random_beats(dice, dice.randint(1, 30), width)
                for readies in readers(dice, dice.randint(0, 60)):
                    self.check(table, width, width + dice.choice((1, 2, 7)), beats, readies)
                many += len(scan(table, beats))
        self.assertGreater(many, 300)

    def test_packets_cut_and_mixed(self):
        dice = random.Random(222)
        for text in TEXTS:
            table = least_of(text)
            rows = [cut_packet(flow, random_packet(dice, 8), [dice.randint(0, 3) for _ in range(dice.randint(0, 4))])
                    for flow in range(3)]
            width = max(1, *[len(beat[2]) for row in rows for beat in row])
            beats = mixed(rows, [dice.randint(0, 9) for _ in range(12)])
            for readies in readers(dice, 20):
                self.check(table, width, width + 1, beats, readies)
