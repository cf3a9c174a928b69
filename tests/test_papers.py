import unittest

from beatscan.papers import is_paper, paper_of, told_from
from beatscan.tables import run, state_behind, step
from tests.books import EXAMPLE, least_of, random_tables, tables
from tests.rowsets import all_packets


def told(table, state, packet):
    found = []
    for byte in packet:
        state, rules = step(table, state, byte)
        found.append(rules)
    return found, table[3][state]


def is_right(table, paper):
    """Whether a paper that has the form shows what it should."""
    reach, apart, classes = paper
    _, rows, tells, _ = table
    many = len(rows)
    deeds = [[(ways[at], rules[at]) for ways, rules in zip(rows, tells)] for at in range(len(rows[0]))]
    return (all(state_behind(table, way) == state for state, way in enumerate(reach))
            and all(told(table, s, apart[s][t - s - 1]) != told(table, t, apart[s][t - s - 1])
                    for t in range(many) for s in range(t))
            and all(deeds[c][classes[c][d - c - 1]] != deeds[d][classes[c][d - c - 1]]
                    for d in range(len(deeds)) for c in range(d)))


def changed(thing, at, new):
    return thing[:at] + (new,) + thing[at + 1:]


class Papers(unittest.TestCase):
    def test_the_example(self):
        table = least_of(EXAMPLE)
        paper = paper_of(table)
        self.assertEqual((is_paper(table, paper), len(paper[0]), state_behind(table, paper[0][6]),
                          is_paper(table, ((),) + paper[1:]), told_from(table, 2, (98,))),
                         (True, 7, 6, False, ((0,), ())))

    def test_form(self):
        for table in tables():
            reach, apart, classes = paper_of(table)
            many = len(table[1])
            self.assertEqual((len(reach), len(apart), len(classes)), (many, many, len(table[1][0])))
            self.assertEqual([len(row) for row in apart], list(range(many - 1, -1, -1)))
            self.assertEqual([len(row) for row in classes], list(range(len(classes) - 1, -1, -1)))
            for thing in (reach, apart, classes, *apart, *classes, *reach):
                self.assertIsInstance(thing, tuple)

    def test_of_least_tables(self):
        for table in tables() + random_tables(70, 40):
            paper = paper_of(table)
            self.assertTrue(is_right(table, paper))
            self.assertIs(is_paper(table, paper), True)

    def test_sixty_states(self):
        table = least_of("x: ^ a{20}b{20}c{17} $")
        self.assertEqual(len(table[1]), 59)
        self.assertTrue(is_paper(table, paper_of(table)))

    def test_one_state_and_one_class(self):
        table = least_of("")
        self.assertEqual(paper_of(table), (((),), ((),), ((),)))
        self.assertTrue(is_paper(table, (((97, 0, 255),), ((),), ((),))))

    def test_told_from(self):
        for table in tables() + random_tables(71, 10):
            for way in all_packets(2, (97, 98, 99)):
                state = state_behind(table, way)
                for packet in all_packets(3, (97, 98, 255)):
                    self.assertEqual(told_from(table, state, packet), run(table, way + packet)[len(way):])


class ChangedPapers(unittest.TestCase):
    tried = [table for table in tables() + random_tables(72, 8) if len(table[1]) <= 9]

    def check(self, table, paper):
        self.assertIs(is_paper(table, paper), is_right(table, paper))

    def test_each_byte_of_reach(self):
        for table in self.tried:
            paper = paper_of(table)
            for state, way in enumerate(paper[0]):
                for at in range(len(way)):
                    for byte in range(256):
                        new = changed(paper[0], state, changed(way, at, byte))
                        self.check(table, (new,) + paper[1:])

    def test_other_ways(self):
        found = {True: 0, False: 0}
        for table in self.tried:
            paper = paper_of(table)
            for state in range(len(paper[0])):
                for way in all_packets(3, (97, 98, 99)):
                    new = (changed(paper[0], state, way),) + paper[1:]
                    self.check(table, new)
                    found[is_right(table, new)] += 1
        self.assertGreater(min(found.values()), 20)

    def test_each_row_of_apart(self):
        found = {True: 0, False: 0}
        for table in self.tried:
            reach, apart, classes = paper_of(table)
            for low, row in enumerate(apart):
                for at in range(len(row)):
                    for ending in all_packets(2, (97, 98, 99, 255)):
                        new = (reach, changed(apart, low, changed(row, at, ending)), classes)
                        self.check(table, new)
                        found[is_right(table, new)] += 1
        self.assertGreater(min(found.values()), 100)

    def test_each_state_of_classes(self):
        found = {True: 0, False: 0}
        for table in self.tried:
            reach, apart, classes = paper_of(table)
            for low, row in enumerate(classes):
                for at in range(len(row)):
                    for state in range(len(table[1])):
                        new = (reach, apart, changed(classes, low, changed(row, at, state)))
                        self.check(table, new)
                        found[is_right(table, new)] += 1
                    for state in (-1, len(table[1]), None, (), True, False, "0"):
                        new = changed(classes, low, changed(row, at, state))
                        self.assertIs(is_paper(table, (reach, apart, new)), False)
        self.assertGreater(min(found.values()), 20)

    def test_a_row_of_no_byte_in_apart(self):
        # The end tells states 0 and 1 apart, the step alone 0 and 2.
        table = ((0,) * 256, ((1,), (2,), (0,)), (((),), ((),), ((0,),)), ((), (0,), ()))
        reach = ((), (7,), (7, 8))
        self.assertTrue(is_paper(table, (reach, (((), (9,)), ((),), ()), ((),))))
        self.assertFalse(is_paper(table, (reach, (((), ()), ((),), ()), ((),))))

    def test_apart_on_one_of_the_bytes_alone(self):
        # Behind the byte both are in one state.
        table = ((0,) * 256, ((1,), (1,)), (((),), ((0,),)), ((), ()))
        self.assertTrue(is_paper(table, (((), (5,)), (((5,),), ()), ((),))))
        self.assertTrue(is_paper(table, (((), (5, 5, 5)), (((5, 6, 7),), ()), ((),))))

    def test_states_that_differ_in_what_is_told_alone(self):
        table = (tuple(byte % 2 for byte in range(256)), ((0, 0),), (((), (0,)),), ((),))
        self.assertTrue(is_paper(table, (((),), ((),), ((0,), ()))))


class OtherThings(unittest.TestCase):
    def setUp(self):
        self.table = least_of(EXAMPLE)
        self.paper = paper_of(self.table)

    def refuse(self, thing):
        self.assertIs(is_paper(self.table, thing), False, thing)

    def test_no_paper_at_all(self):
        for thing in (None, 0, "abc", (), [], {}, True, (1, 2, 3), ("a", "b", "c"), ((), (), ()), list(self.paper)):
            self.refuse(thing)

    def test_parts_left_out_and_one_too_many(self):
        self.refuse(self.paper[:2])
        self.refuse(self.paper + ((),))
        for at, part in enumerate(self.paper):
            self.refuse(changed(self.paper, at, part[:-1]))
            self.refuse(changed(self.paper, at, part + (part[-1],)))
            self.refuse(changed(self.paper, at, part + ((),)))
            self.refuse(changed(self.paper, at, part[1:]))

    def test_rows_left_out_and_one_too_many(self):
        for number in (1, 2):
            part = self.paper[number]
            for at, row in enumerate(part):
                if row:
                    self.refuse(changed(self.paper, number, changed(part, at, row[:-1])))
                self.refuse(changed(self.paper, number, changed(part, at, row + (part[0][0],))))

    def test_lists_in_the_place_of_tuples(self):
        for number, part in enumerate(self.paper):
            self.refuse(changed(self.paper, number, list(part)))
            for at, row in enumerate(part):
                self.refuse(changed(self.paper, number, changed(part, at, list(row))))
        apart = self.paper[1]
        self.refuse(changed(self.paper, 1, changed(apart, 0, changed(apart[0], 0, list(apart[0][0])))))

    def test_rows_of_other_things(self):
        reach, apart, _ = self.paper
        for thing in (None, 97, "a", b"a", ("a",), (256,), (-1,), (None,), ((97,),), (True,), (97, False)):
            self.refuse(changed(self.paper, 0, changed(reach, 1, thing)))
            self.refuse(changed(self.paper, 1, changed(apart, 0, changed(apart[0], 0, thing))))

    def test_papers_of_other_tables(self):
        for table in tables():
            if table != self.table:
                self.assertEqual(is_paper(self.table, paper_of(table)), False)

    def test_true_is_no_byte(self):
        # By its value it would lead to the state.
        table = least_of("x: ^ \\x01")
        paper = paper_of(table)
        state = state_behind(table, (1,))
        self.assertTrue(is_paper(table, changed(paper, 0, changed(paper[0], state, (1,)))))
        self.assertFalse(is_paper(table, changed(paper, 0, changed(paper[0], state, (True,)))))

    def test_a_table_that_is_not_least_has_none(self):
        table = ((0,) * 256, ((1,), (0,)), (((),), ((),)), ((), ()))
        for ending in all_packets(2):
            self.assertFalse(is_paper(table, (((), (1,)), ((ending,), ()), ((),))))
