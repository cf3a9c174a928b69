import random
import unittest

from beatscan.bookreader import read_book
from beatscan.derivatives import has_empty
from beatscan.errors import BadThing
from beatscan.least import bits_for, least
from beatscan.meaning import told_in
from beatscan.tables import run, state_behind, step, table_of
from tests.rowsets import all_packets, random_trees

BOOK = "x: a b+   # one\ny: ^ (a|c){2} $"
TEXTS = [
    "", "x: a", "x: []", "x: ^ []\ny: [] $", "x: .", BOOK, "x: ^ a\ny: a $\nz: ^ a $\nw: a", "x: a.{3}b",
    "x: (a|b)*a(a|b){2} $", "x: ^ !(.*aa.*) & .+ $\ny: aa", "x: [^a]a\ny: [\\x00-a]{2}", "x: !a & .\ny: ^ (ab|ba)+",
    "x: [\\x00]\ny: [\\xff] $", "word: ab | ba\nstart: ^ [a-b]{2,4} c\nstop: (.* & !(.* c .*)) b $",
]
SAME = [
    ("x: a|b", "x: [ab]"), ("x: a+", "x: a"), ("x: aa*", "x: a+"), ("x: (a|b)(a|b)", "x: [ab]{2}"),
    ("x: .*a", "x: a"), ("x: ^ .*a", "x: a"), ("x: ^ .* a $", "y: a $"), ("x: []", "y: ^ [] $"),
    ("x: !(!a|!a)", "x: a"), ("x: ^ (aa)*a(aa)* & a{1,3}", "x: ^ a|aaa"), ("x: [\\x00-\\xff]", "x: ."),
    ("x: ^ a*b", "x: ^ b|a+b"), ("x: a\ny: []", "y: a"), ("x: (ab)+", "x: ab"),
]
UNLIKE = [
    ("x: a", "x: b"), ("x: a", "x: ^ a"), ("x: a", "x: a $"), ("x: ^ a{20}", "x: ^ a{19}"), ("x: a\ny: b", "x: b\ny: a"),
    ("x: a", "x: a\ny: a"), ("x: ^ a*b", "x: ^ a+b"), ("x: .", "x: [^\\xff]"), ("x: .", "x: []"), ("", "x: ."),
    ("x: ab", "x: ab|c"), ("x: ^ a", "x: ^ a $"),
]


def least_of(text):
    return least(table_of(read_book(text)))


def bigger(table, dice):
    """A table that tells the same, with states and classes twice, states that nothing leads to, all in another order."""
    classes, rows, tells, ends = table
    many = len(rows)
    owners = list(range(many)) + [dice.randrange(many) for _ in range(dice.randint(1, 6))]
    unreached = dice.randint(0, 3)
    copies = [[at for at, owner in enumerate(owners) if owner == state] for state in range(many)]
    order = [0] + dice.sample(range(1, len(owners)), len(owners) - 1)
    places = {state: at for at, state in enumerate(order)}
    kinds = [classes[dice.randrange(256)] for _ in range(3)] + sorted(set(classes))
    dice.shuffle(kinds)
    chosen = [dice.choice([at for at, kind in enumerate(kinds) if kind == number]) for number in classes]
    used = sorted(set(chosen), key=lambda at: dice.random())
    new_classes = tuple(used.index(at) for at in chosen)
    new_rows = [tuple(places[dice.choice(copies[rows[owners[state]][kinds[at]]])] for at in used) for state in order]
    new_tells = [tuple(tells[owners[state]][kinds[at]] for at in used) for state in order]
    new_ends = [ends[owners[state]] for state in order]
    for _ in range(unreached):
        new_rows.append(tuple(dice.randrange(len(owners)) for _ in used))
        new_tells.append(tuple((dice.randrange(2),) for _ in used))
        new_ends.append((1,))
    return (new_classes, tuple(new_rows), tuple(new_tells), tuple(new_ends))


def told_from(table, state, packet):
    told = []
    for byte in packet:
        state, rules = step(table, state, byte)
        told.append(rules)
    return told + [table[3][state]]


def pairs_told_apart(table):
    """All pairs of states that some bytes tell apart, found from the back: shorter bytes first."""
    classes, rows, tells, ends = table
    states = range(len(rows))
    apart = {(s, t) for s in states for t in states if ends[s] != ends[t] or tells[s] != tells[t]}
    while True:
        more = {(s, t) for s in states for t in states
                if any((a, b) in apart for a, b in zip(rows[s], rows[t]))} | apart
        if more == apart:
            return apart
        apart = more


def apart_packet(one, other):
    """A packet of which two tables tell unlike things, or None."""
    ways = {(0, 0): ()}
    waiting = [(0, 0)]
    for states in waiting:
        packet = ways[states]
        if one[3][states[0]] != other[3][states[1]]:
            return packet
        for byte in range(256):
            (first, rules), (second, others) = step(one, states[0], byte), step(other, states[1], byte)
            if rules != others:
                return packet + (byte,)
            if (first, second) not in ways:
                ways[first, second] = packet + (byte,)
                waiting.append((first, second))
    return None


class Least(unittest.TestCase):
    def check_is_least(self, table):
        classes, rows, tells, ends = table
        many = len(rows)
        self.assertEqual(len(pairs_told_apart(table)), many * (many - 1))
        columns = [tuple((ways[at], told[at]) for ways, told in zip(rows, tells)) for at in range(max(classes) + 1)]
        self.assertEqual(len(set(columns)), len(columns))
        self.assertEqual({len(ways) for ways in rows + tells}, {len(columns)})
        self.check_numbers(table)

    def check_numbers(self, table):
        classes, rows, _, _ = table
        firsts = [classes.index(number) for number in range(max(classes) + 1)]
        self.assertEqual(firsts, sorted(firsts))
        # The shortest, then least bytes that lead to each state, by going through all bytes.
        reach = {0: ()}
        waiting = [0]
        for state in waiting:
            for byte in range(256):
                to = rows[state][classes[byte]]
                if to not in reach:
                    reach[to] = reach[state] + (byte,)
                    waiting.append(to)
        self.assertEqual(sorted(reach), list(range(len(rows))))
        ways = [reach[state] for state in range(len(rows))]
        self.assertEqual(ways, sorted(ways, key=lambda way: (len(way), way)))

    def test_the_example(self):
        table = least_of(BOOK)
        self.assertEqual((len(table[1]), max(table[0]) + 1, step(table, 0, 97), bits_for(len(table[1]))), (7, 4, (2, ()), 3))

    def test_by_hand(self):
        self.assertEqual(least_of("x: a"), (
            tuple(int(byte == 97) for byte in range(256)), ((0, 0),), (((), (0,)),), ((),)))
        self.assertEqual(least_of("x: ^ [b-d] $"), (
            tuple(int(98 <= byte <= 100) for byte in range(256)),
            ((1, 2), (1, 1), (1, 1)), (((), ()),) * 3, ((), (), (0,))))
        self.assertEqual(least_of(""), ((0,) * 256, ((0,),), (((),),), ((),)))
        self.assertEqual(least_of("x: \\x00"), ((0,) + (1,) * 255, ((0, 0),), (((0,), ()),), ((),)))

    def test_it_tells_the_same(self):
        for text in TEXTS:
            book = read_book(text)
            table = least(table_of(book))
            self.assertIsNone(apart_packet(table, table_of(book)))
            for packet in all_packets(4, (97, 98, 99)) + all_packets(2, (0, 96, 255)):
                self.assertEqual(run(table, packet), told_in(book, packet))

    def test_it_is_least_and_numbered_as_told(self):
        for text in TEXTS:
            self.check_is_least(least_of(text))

    def test_of_the_least_is_itself(self):
        for text in TEXTS:
            self.assertEqual(least(least_of(text)), least_of(text))

    def test_tables_made_bigger_by_hand(self):
        dice = random.Random(60)
        for text in TEXTS:
            table = least_of(text)
            for _ in range(12):
                large = bigger(table, dice)
                self.assertGreater(len(large[1]), len(table[1]))
                self.assertIsNone(apart_packet(large, table))
                self.assertEqual(least(large), table)

    def test_states_told_apart_by_long_endings_alone(self):
        table = least_of("x: ^ a{20}a{10}b")
        # Behind none to 30 a's, and where nothing can come any more, as it is behind the b.
        self.assertEqual(len(table[1]), 32)
        self.check_is_least(table)

    def test_states_told_apart_at_the_end_alone(self):
        classes = (0,) * 256
        table = (classes, ((1,), (0,)), (((),), ((),)), ((), (0,)))
        self.assertEqual(least(table), table)
        self.assertEqual(least((classes, ((1,), (0,)), (((),), ((),)), ((0,), (0,)))),
                         (classes, ((0,),), (((),),), ((0,),)))

    def test_states_told_apart_on_a_step_alone(self):
        classes = (0,) * 256
        table = (classes, ((1,), (0,)), (((),), ((0,),)), ((), ()))
        self.assertEqual(least(table), table)

    def test_classes_that_do_the_same_only_where_bytes_lead(self):
        classes = (0,) * 100 + (1,) * 156
        table = (classes, ((0, 0), (0, 1)), (((), ()), ((), (0,))), ((), ()))
        self.assertEqual(least(table), ((0,) * 256, ((0,),), (((),),), ((),)))

    def test_classes_that_lead_to_equal_states(self):
        classes = (1,) * 100 + (0,) * 156
        table = (classes, ((1, 2), (0, 0), (0, 0)), (((), ()), ((0,), (0,)), ((0,), (0,))), ((), (), ()))
        self.assertEqual(least(table), ((0,) * 256, ((1,), (0,)), (((),), ((0,),)), ((), ())))

    def test_books_that_tell_the_same(self):
        for one, other in SAME:
            self.assertEqual(least_of(one), least_of(other), (one, other))

    def test_books_that_do_not(self):
        for one, other in UNLIKE:
            self.assertNotEqual(least_of(one), least_of(other), (one, other))

    def test_equal_just_if_they_tell_the_same(self):
        dice = random.Random(61)
        trees = [tree for tree in random_trees(62, 150, 2) if not has_empty(tree)]
        found = {True: 0, False: 0}
        for _ in range(250):
            books = [(("x", is_first, is_last, dice.choice(trees)),) for is_first, is_last in
                     [(dice.random() < 0.5, dice.random() < 0.5)] * 2]
            try:
                tables = [table_of(book) for book in books]
            except BadThing:
                continue
            packet = apart_packet(*tables)
            found[packet is None] += 1
            self.assertEqual(least(tables[0]) == least(tables[1]), packet is None)
            if packet is not None:
                self.assertNotEqual(told_in(books[0], packet), told_in(books[1], packet))
        self.assertGreater(min(found.values()), 10)

    def test_state_behind_the_reach(self):
        table = least_of("x: ^ abc")
        self.assertEqual([state_behind(table, way) for way in [(), (0,), (97,), (97, 98), (97, 98, 99)]], [0, 1, 2, 3, 1])


class BitsFor(unittest.TestCase):
    def test_from_1_on(self):
        self.assertEqual([bits_for(many) for many in range(1, 18)], [0, 1, 2, 2, 3, 3, 3, 3] + [4] * 8 + [5])

    def test_it_is_the_least(self):
        for many in range(1, 700):
            bits = bits_for(many)
            self.assertGreaterEqual(2 ** bits, many)
            self.assertTrue(bits == 0 or 2 ** (bits - 1) < many)
