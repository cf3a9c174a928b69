import random
import unittest

from beatscan.beats import are_beats, cut_packet, mixed, packets_in, scan
from beatscan.bookreader import read_book
from beatscan.least import least
from beatscan.meaning import told_in
from beatscan.tables import table_of
from tests.books import EXAMPLE, TEXTS, least_of, random_beats, random_packet


def told_at_places(book, beats):
    """The reports by the meaning of the book, from packets cut out of the beats here, one flow after the other."""
    found = []
    for flow in sorted({beat[0] for beat in beats}):
        packet, places = None, []
        for at, (owner, is_first, taken, is_last) in enumerate(beats):
            if owner != flow:
                continue
            if is_first or packet is None:
                packet, places = (), []
            packet += taken
            places += [(at, lane) for lane in range(len(taken))]
            told = told_in(book, packet)
            found += [(*place, flow, rules) for place, rules in zip(places, told) if rules and place[0] == at]
            if is_last:
                found += [(at, len(taken), flow, told[-1])] if told[-1] else []
                packet = None
    return [(at, flow, lane, rules) for at, lane, flow, rules in sorted(found)]


class Scan(unittest.TestCase):
    book = read_book(EXAMPLE)
    table = least_of(EXAMPLE)

    def test_the_example(self):
        beats = mixed([cut_packet(7, (97, 98), (1,)), cut_packet(8, (99, 97), ())], (0, 1, 0))
        self.assertEqual(beats, [(7, True, (97,), False), (8, True, (99, 97), True), (7, False, (98,), True)])
        self.assertEqual(scan(self.table, beats), [(1, 8, 2, (1,)), (2, 7, 0, (0,))])
        self.assertEqual(packets_in(beats)[1], (8, (99, 97), (1, 2), ((1, 0), (1, 1))))

    def test_nothing(self):
        self.assertEqual(scan(self.table, []), [])
        self.assertEqual(packets_in([]), [])

    def test_a_beat_of_no_bytes_ends_a_packet(self):
        beats = [(1, True, (97, 97), False), (1, False, (), True)]
        self.assertEqual(scan(self.table, beats), [(1, 1, 0, (1,))])
        self.assertEqual(packets_in(beats), [(1, (97, 97), (1, 0), ((0, 0), (0, 1)))])

    def test_the_end_stands_behind_the_last_byte(self):
        beats = [(1, True, (97,), False), (1, False, (99,), True)]
        self.assertEqual(scan(self.table, beats), [(1, 1, 1, (1,))])

    def test_given_up(self):
        beats = [(1, True, (97,), False), (1, True, (98,), True)]
        self.assertEqual(scan(self.table, beats), [])
        self.assertEqual(packets_in(beats), [(1, (97,), None, ((0, 0),)), (1, (98,), (1, 1), ((1, 0),))])

    def test_begun_without_is_first(self):
        beats = [(1, False, (97,), False), (1, False, (98,), True), (1, False, (97, 97), True)]
        self.assertEqual(scan(self.table, beats), [(1, 1, 0, (0,)), (2, 1, 2, (1,))])
        self.assertEqual(packets_in(beats), [
            (1, (97, 98), (1, 1), ((0, 0), (1, 0))), (1, (97, 97), (2, 2), ((2, 0), (2, 1)))])

    def test_without_an_end(self):
        beats = [(1, True, (97, 97), False)]
        self.assertEqual(scan(self.table, beats), [])
        self.assertEqual(packets_in(beats), [(1, (97, 97), None, ((0, 0), (0, 1)))])

    def test_packets_stand_as_they_begin(self):
        beats = [(2, True, (1,), False), (1, True, (2,), True), (2, False, (3,), True), (1, False, (), False),
                 (2, False, (), True)]
        self.assertEqual(packets_in(beats), [
            (2, (1, 3), (2, 1), ((0, 0), (2, 0))), (1, (2,), (1, 1), ((1, 0),)), (1, (), None, ()), (2, (), (4, 0), ())])

    def test_a_table_that_tells_of_an_empty_packet(self):
        table = ((0,) * 256, ((0,),), (((),),), ((3,),))
        self.assertEqual(scan(table, [(5, True, (), True), (5, False, (), True), (5, True, (9,), True)]),
                         [(0, 5, 0, (3,)), (1, 5, 0, (3,)), (2, 5, 1, (3,))])

    def test_against_the_meaning(self):
        dice = random.Random(90)
        many = 0
        for text in TEXTS:
            book = read_book(text)
            for table in (table_of(book), least(table_of(book))):
                for _ in range(4):
                    beats = random_beats(dice, 20, 3)
                    reports = scan(table, beats)
                    self.assertEqual(reports, told_at_places(book, beats))
                    many += len(reports)
        self.assertGreater(many, 300)

    def test_against_told_in_of_packets_in(self):
        dice = random.Random(91)
        for text in TEXTS:
            book = read_book(text)
            table = table_of(book)
            for _ in range(6):
                beats = random_beats(dice, 25, 4)
                right = []
                for flow, packet, end, places in packets_in(beats):
                    told = told_in(book, packet)
                    right += [(*place, flow, rules) for place, rules in zip(places, told) if rules]
                    right += [(*end, flow, told[-1])] if end and told[-1] else []
                self.assertEqual(scan(table, beats), [(at, flow, lane, rules) for at, lane, flow, rules in sorted(right)])

    def test_packets_cut_at_all_sizes_and_mixed(self):
        dice = random.Random(92)
        for text in TEXTS:
            book = read_book(text)
            table = least(table_of(book))
            packets = [random_packet(dice, 7) for _ in range(4)]
            for _ in range(8):
                rows = [cut_packet(at, packet, [dice.randint(0, 3) for _ in range(dice.randint(0, 6))])
                        for at, packet in enumerate(packets)]
                beats = mixed(rows, [dice.randint(0, 9) for _ in range(dice.randint(0, 30))])
                told = {at: [] for at in range(4)}
                for at, flow, lane, rules in scan(table, beats):
                    told[flow].append((at, lane, rules))
                for flow, packet, end, places in packets_in(beats):
                    self.assertEqual(packet, packets[flow])
                    right = zip(places + (end,), told_in(book, packet))
                    self.assertEqual(told[flow], [(*place, rules) for place, rules in right if rules])


class Cut(unittest.TestCase):
    def test_by_hand(self):
        self.assertEqual(cut_packet(3, (1, 2, 3, 4, 5), (2, 0, 1)), [
            (3, True, (1, 2), False), (3, False, (), False), (3, False, (3,), False), (3, False, (4, 5), True)])

    def test_no_sizes(self):
        self.assertEqual(cut_packet(3, (1, 2), ()), [(3, True, (1, 2), True)])
        self.assertEqual(cut_packet(3, (), ()), [(3, True, (), True)])

    def test_just_as_many(self):
        self.assertEqual(cut_packet(3, (1, 2, 3), [2, 1]), [
            (3, True, (1, 2), False), (3, False, (3,), False), (3, False, (), True)])

    def test_more_than_there_are(self):
        self.assertEqual(cut_packet(3, (1, 2, 3), (2, 5)), [
            (3, True, (1, 2), False), (3, False, (3,), False), (3, False, (), True)])

    def test_the_packet_comes_back(self):
        dice = random.Random(93)
        for _ in range(300):
            packet = random_packet(dice, 9)
            sizes = [dice.randint(0, 4) for _ in range(dice.randint(0, 7))]
            beats = cut_packet(5, packet, sizes)
            end = (len(beats) - 1, len(beats[-1][2]))
            places = tuple((at, lane) for at, beat in enumerate(beats) for lane in range(len(beat[2])))
            self.assertEqual(packets_in(beats), [(5, packet, end, places)])
            self.assertEqual([beat[1] for beat in beats], [True] + [False] * (len(beats) - 1))
            self.assertEqual([beat[3] for beat in beats], [False] * (len(beats) - 1) + [True])
            left = len(packet)
            for beat, size in zip(beats[:-1], sizes):
                self.assertEqual(len(beat[2]), min(size, left))
                left -= len(beat[2])
            self.assertTrue(are_beats(beats, 9))


class Mixed(unittest.TestCase):
    rows = [["a1", "a2", "a3"], ["b1"], ["c1", "c2"]]

    def test_by_hand(self):
        for turns, right in [
            ((), "a1 a2 a3 b1 c1 c2"), ((2,), "c1 a1 a2 a3 b1 c2"), ((1, 1), "b1 c1 a1 a2 a3 c2"),
            ((1, 1, 1, 1), "b1 c1 c2 a1 a2 a3"), ((5, 4, 3), "c1 b1 c2 a1 a2 a3"), ((0, 0, 0, 0), "a1 a2 a3 b1 c1 c2"),
            ((1, 2, 3), "b1 a1 c1 a2 a3 c2"),
        ]:
            self.assertEqual(mixed(self.rows, turns), right.split(), turns)

    def test_more_turns_than_beats(self):
        self.assertEqual(mixed(self.rows, (1,) * 6), "b1 c1 c2 a1 a2 a3".split())
        self.assertEqual(mixed(self.rows, [0] * 20), "a1 a2 a3 b1 c1 c2".split())
        self.assertEqual(mixed(self.rows, tuple(range(50))), mixed(self.rows, tuple(range(6))))

    def test_no_rows_and_rows_of_no_beat(self):
        self.assertEqual(mixed([], (1, 2, 3)), [])
        self.assertEqual(mixed([[], []], (1, 2, 3)), [])
        self.assertEqual(mixed([[], ["a"], [], ["b"]], (1,)), ["b", "a"])

    def test_rows_stay_as_they_are(self):
        rows = [["a"], ["b", "c"]]
        mixed(rows, (1, 1, 1))
        self.assertEqual(rows, [["a"], ["b", "c"]])
        self.assertEqual(mixed((("a",), ("b", "c")), (1, 1)), ["b", "c", "a"])

    def test_each_row_in_its_order(self):
        dice = random.Random(94)
        for _ in range(200):
            rows = [[(row, at) for at in range(dice.randint(0, 4))] for row in range(dice.randint(0, 4))]
            found = mixed(rows, [dice.randint(0, 20) for _ in range(dice.randint(0, 20))])
            self.assertEqual([[beat for beat in found if beat[0] == row] for row in range(len(rows))], rows)
            self.assertEqual(len(found), sum(len(row) for row in rows))


class AreBeats(unittest.TestCase):
    beat = (1, True, (97, 98), False)

    def test_lists_and_tuples(self):
        for thing in ([], (), [self.beat], (self.beat,), [self.beat] * 60, [(1, True, (), False)]):
            self.assertIs(are_beats(thing, 2), True)

    def test_other_things(self):
        for thing in (None, 0, "", "abcd", b"", {}, {1: self.beat}, self.beat, [None], [1], ["abcd"], [()], [[]]):
            self.assertIs(are_beats(thing, 2), False, thing)

    def test_other_forms(self):
        for beat in (list(self.beat), self.beat[:3], self.beat + (1,), (1, True, [97], False), (1, True, b"a", False),
                     (1, True, "a", False), (1, True, None, False), (1, True, 97, False), (1, True, ("a",), False),
                     (1, True, (256,), False), (1, True, (-1,), False), (1, True, (None,), False),
                     (1, True, ((97,),), False), (1, True, (True,), False)):
            self.assertIs(are_beats([beat], 2), False, beat)
            self.assertIs(are_beats((self.beat, beat), 2), False, beat)
            self.assertIs(are_beats((beat, self.beat), 2), False, beat)

    def test_width(self):
        for many in range(5):
            for width in range(5):
                beat = (1, True, (0, 255, 1, 2)[:many], False)
                self.assertIs(are_beats([beat], width), many <= width)
                self.assertIs(are_beats((self.beat[:2] + ((),) + self.beat[3:], beat), width), many <= width)
