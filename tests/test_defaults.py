import itertools
import random
import unittest

from beatscan.bookreader import read_book
from beatscan.defaults import best_tree, default_run, entries_of, is_best, is_tree, most_looks
from beatscan.errors import BadThing
from beatscan.tables import run, table_of
from tests.books import EXAMPLE, TEXTS, any_table, least_of, random_packet, random_tables, tables

DICE = random.Random(200)
ANY = [any_table(DICE, DICE.randint(1, 9), DICE.randint(1, 6), DICE.randint(0, 3)) for _ in range(30)]
ALL = tables() + random_tables(201, 8) + ANY + [table_of(read_book(text)) for text in TEXTS[:12]]


def all_tuples(many):
    return [(-1, *parents) for parents in itertools.product(range(many), repeat=many - 1)]


def way_up(tree, state):
    """The states on the way from one to state 0, None if it leads elsewhere."""
    way = [state]
    while way[-1] != 0:
        if len(way) > len(tree):
            return None
        way.append(tree[way[-1]])
    return way


def all_trees(many):
    return [tree for tree in all_tuples(many) if all(way_up(tree, state) for state in range(many))]


def entries(table, state):
    return list(zip(table[1][state], table[2][state]))


def kept(table, tree):
    """The set of the pairs (state, class) that are kept, by the words of [22]."""
    found = {(0, number) for number in range(len(table[1][0]))}
    for state in range(1, len(tree)):
        pairs = zip(entries(table, state), entries(table, tree[state]))
        found |= {(state, number) for number, (own, parents) in enumerate(pairs) if own != parents}
    return found


def alike(table, one, other):
    return sum(a == b for a, b in zip(entries(table, one), entries(table, other)))


def is_best_by_ways(table, tree):
    """The fact of [22], for each two states and the way between them in the tree."""
    for one, other in itertools.combinations(range(len(tree)), 2):
        up, down = way_up(tree, one), way_up(tree, other)
        while len(up) > 1 and len(down) > 1 and up[-2] == down[-2]:
            up.pop()
            down.pop()
        way = up + down[-2::-1]
        assert way[0] == one and way[-1] == other
        if alike(table, one, other) > min(alike(table, *pair) for pair in zip(way, way[1:])):
            return False
    return True


def looks(table, tree, packet):
    """How many states are looked at in all."""
    keep = kept(table, tree)
    many, state = 0, 0
    for byte in packet:
        number = table[0][byte]
        for place in way_up(tree, state):
            many += 1
            if (place, number) in keep:
                break
        state = table[1][state][number]
    return many


def random_tree(dice, many):
    """A tree whose ways may go up through states of greater numbers."""
    order = [0] + dice.sample(range(1, many), many - 1)
    parents = {state: order[dice.randrange(at)] for at, state in enumerate(order) if at}
    return (-1, *[parents[state] for state in range(1, many)])


class IsTree(unittest.TestCase):
    def test_the_example(self):
        table = least_of(EXAMPLE)
        tree = best_tree(table)
        star = (-1,) + (0,) * 6
        self.assertEqual((is_best(table, tree), is_tree(table, star), entries_of(table, tree) <= entries_of(table, star),
                          default_run(table, tree, (97, 98))[0] == run(table, (97, 98))), (True, True, True, True))

    def test_all_tuples_of_small_tables(self):
        for many in (1, 2, 3, 4, 5):
            table = any_table(random.Random(many), many, 2, 1)
            trees = all_trees(many)
            # So many trees there are of so many points.
            self.assertEqual(len(trees), many ** max(0, many - 2))
            for tree in all_tuples(many):
                self.assertIs(is_tree(table, tree), tree in trees)

    def test_lengths(self):
        table = least_of(EXAMPLE)
        for many in range(12):
            self.assertIs(is_tree(table, (-1,) + (0,) * many), many == 6)
        self.assertIs(is_tree(table, ()), False)

    def test_state_0(self):
        table = least_of(EXAMPLE)
        for first in (0, 1, 6, -2, 7, None, True):
            for tree in ((first,) + (0,) * 6, (first, 0, 1, 2, 3, 4, 5)):
                self.assertIs(is_tree(table, tree), False)
        self.assertIs(is_tree(least_of(""), (-1,)), True)
        for tree in ((0,), (1,), (), (-1, 0), (-1, -1)):
            self.assertIs(is_tree(least_of(""), tree), False)

    def test_rings_and_ways_out(self):
        table = least_of(EXAMPLE)
        for tree in ((-1, 1, 0, 0, 0, 0, 0), (-1, 2, 1, 0, 0, 0, 0), (-1, 2, 3, 1, 0, 0, 0), (-1, 0, 0, 4, 3, 0, 0),
                     (-1, 6, 1, 2, 3, 4, 5), (-1, -1, 0, 0, 0, 0, 0), (-1, 7, 0, 0, 0, 0, 0), (-1, 0, 0, 0, 0, 0, 7),
                     (-1, 0, 0, 0, 0, 0, -2), (-1, 0, 0, 0, 0, 0, 300), (-1, 0, -7, 0, 0, 0, 0)):
            self.assertIs(is_tree(table, tree), False, tree)
        for tree in ((-1, 0, 1, 2, 3, 4, 5), (-1, 2, 3, 4, 5, 6, 0), (-1, 3, 3, 0, 3, 4, 5)):
            self.assertIs(is_tree(table, tree), True, tree)

    def test_other_things(self):
        table = least_of(EXAMPLE)
        for thing in (None, 0, -1, "", "0000000", [-1, 0, 0, 0, 0, 0, 0], {-1: 0}, (-1, None, 0, 0, 0, 0, 0),
                      (-1, "0", 0, 0, 0, 0, 0), (-1, 0, 0, (0,), 0, 0, 0), (-1, 0, 0, [0], 0, 0, 0),
                      (-1, 0, True, 0, 0, 0, 0), (-1, False, 0, 0, 0, 0, 0)):
            self.assertIs(is_tree(table, thing), False, thing)
            self.assertIs(is_best(table, thing), False, thing)


class Entries(unittest.TestCase):
    def test_by_hand(self):
        table = ((0,) * 128 + (1,) * 128, ((1, 0), (1, 2), (1, 2)), (((), (0,)), ((), (0,)), ((), ())), ((), (), (1,)))
        # State 1 differs from 0 in class 1, 2 from 0 in class 1, 2 from 1 in class 1 by what is told.
        for tree, right in (((-1, 0, 0), 4), ((-1, 0, 1), 4), ((-1, 2, 0), 4)):
            self.assertEqual(entries_of(table, tree), right)
        same = ((0,) * 128 + (1,) * 128, ((1, 0), (1, 2), (1, 2)), (((), (0,)), ((), ()), ((), ())), ((), (), (1,)))
        self.assertEqual([entries_of(same, tree) for tree in ((-1, 0, 0), (-1, 0, 1), (-1, 2, 0))], [4, 3, 3])
        self.assertEqual([is_best(same, tree) for tree in ((-1, 0, 0), (-1, 0, 1), (-1, 2, 0))], [False, True, True])

    def test_what_is_told_at_the_end_plays_no_part(self):
        for table in ALL:
            tree = best_tree(table)
            other = table[:3] + (tuple((7,) for _ in tree),)
            self.assertEqual(entries_of(other, tree), entries_of(table, tree))

    def test_one_state(self):
        table = least_of("")
        self.assertEqual((best_tree(table), entries_of(table, (-1,)), is_best(table, (-1,)), most_looks((-1,))),
                         ((-1,), 1, True, 1))
        wide = ((*range(256),), ((0,) * 256,), (((),) * 256,), ((),))
        self.assertEqual(entries_of(wide, (-1,)), 256)

    def test_by_an_own_reading(self):
        dice = random.Random(202)
        for table in ALL:
            for _ in range(5):
                tree = random_tree(dice, len(table[1]))
                self.assertIs(is_tree(table, tree), True)
                self.assertEqual(entries_of(table, tree), len(kept(table, tree)))
                self.assertEqual(most_looks(tree), max(len(way_up(tree, state)) for state in range(len(tree))))

    def test_most_looks(self):
        for tree, right in (((-1,), 1), ((-1, 0), 2), ((-1, 0, 0, 0), 2), ((-1, 0, 1, 2), 4), ((-1, 3, 0, 2, 0), 4)):
            self.assertEqual(most_looks(tree), right)
        self.assertEqual(most_looks((-1, *range(299))), 300)


class Best(unittest.TestCase):
    def test_all_trees_of_small_tables(self):
        found = {True: 0, False: 0}
        for table in ALL:
            if len(table[1]) <= 5:
                counts = {tree: len(kept(table, tree)) for tree in all_trees(len(table[1]))}
                fewest = min(counts.values())
                self.assertIn(best_tree(table), counts)
                self.assertEqual(entries_of(table, best_tree(table)), fewest)
                for tree, count in counts.items():
                    self.assertIs(is_best(table, tree), count == fewest)
                    self.assertIs(is_best_by_ways(table, tree), count == fewest)
                    found[count == fewest] += 1
        self.assertGreater(min(found.values()), 50)

    def test_larger_tables_by_the_ways(self):
        dice = random.Random(203)
        found = {True: 0, False: 0}
        for table in ALL:
            tree = best_tree(table)
            self.assertIs(is_tree(table, tree), True)
            self.assertIs(is_best(table, tree), True)
            self.assertTrue(is_best_by_ways(table, tree))
            for _ in range(4):
                other = list(tree)
                if len(tree) > 1:
                    other[dice.randrange(1, len(tree))] = dice.randrange(len(tree))
                if is_tree(table, tuple(other)):
                    best = is_best_by_ways(table, tuple(other))
                    self.assertIs(is_best(table, tuple(other)), best)
                    found[best] += 1
        self.assertGreater(min(found.values()), 20)

    def test_trees_of_other_tables(self):
        table = least_of(EXAMPLE)
        for tree in ((-1,), (-1, 0), (-1, 1, 0, 0, 0, 0, 0), (0,) * 7):
            self.assertIs(is_best(table, tree), False)

    def test_many_states(self):
        table = least_of("x: (a|b)*a(a|b){5} $")
        self.assertEqual(len(table[1]), 64)
        self.assertTrue(is_best_by_ways(table, best_tree(table)))


class DefaultRun(unittest.TestCase):
    def test_against_run(self):
        dice = random.Random(204)
        most = 0
        for table in ALL:
            for tree in [best_tree(table)] + [random_tree(dice, len(table[1])) for _ in range(4)]:
                for packet in [()] + [random_packet(dice, 12) for _ in range(6)]:
                    told, many = default_run(table, tree, packet)
                    self.assertEqual(told, run(table, packet))
                    self.assertEqual(many, looks(table, tree, packet))
                    self.assertLessEqual(len(packet), many)
                    self.assertLessEqual(many, len(packet) * most_looks(tree))
                    most = max(most, many - len(packet))
        self.assertGreater(most, 10)

    def test_by_hand(self):
        table = ((0,) * 128 + (1,) * 128, ((1, 0), (1, 2), (1, 2)), (((), (0,)), ((), ()), ((), ())), ((), (), (1,)))
        # Class 0 is kept by state 0 alone, class 1 by states 0 and 1.
        for packet, right in (((), (((),), 0)), ((200,), (((0,), ()), 1)), ((1, 1), (((), (), ()), 3)),
                              ((1, 200), (((), (), (1,)), 2)), ((1, 200, 200, 1), (((), (), (), (), ()), 7))):
            self.assertEqual(default_run(table, (-1, 0, 1), packet), right)

    def test_a_long_packet(self):
        table = least_of("x: ^ (a{20}){2} b")
        for tree in (best_tree(table), (-1, *range(len(table[1]) - 1))):
            self.assertEqual(default_run(table, tree, (97,) * 40)[0], run(table, (97,) * 40))


class NoTree(unittest.TestCase):
    def test_bad_thing(self):
        table = least_of(EXAMPLE)
        for tree in ((), (-1,), (-1,) + (0,) * 5, (-1,) + (0,) * 7, (0,) * 7, (-1, 2, 1, 0, 0, 0, 0),
                     (-1, 0, 0, 0, 0, 0, 7), (-1, -1, 0, 0, 0, 0, 0), (-1, None, 0, 0, 0, 0, 0), None, "tree"):
            for call in (lambda: entries_of(table, tree), lambda: default_run(table, tree, (97,)),
                         lambda: default_run(table, tree, ())):
                with self.assertRaises(BadThing) as caught:
                    call()
                self.assertEqual(caught.exception.thing, tree)

    def test_most_looks(self):
        for tree in ((), (0,), (-1, -1), (-1, 1), (-1, 2, 1), (-1, 0, 3), (-1, 0, -3), (-2, 0), (1, 0), (-1, None),
                     (-1, "0"), None, 5, "tree", [-1, 0]):
            with self.assertRaises(BadThing) as caught:
                most_looks(tree)
            self.assertEqual(caught.exception.thing, tree)
