import random
import unittest

from beatscan.errors import BadThing
from beatscan.flowstores import FlowStore


def fewest_words(flows, bits, width):
    """So many words are needed, found by putting the states into words one after the other."""
    if bits == 0:
        return 0
    many, room = 0, 0
    for _ in range(flows):
        if room < bits:
            many, room = many + 1, width
        room -= bits
    return many


class Stores(unittest.TestCase):
    def refuse(self, thing, call, *arguments):
        with self.assertRaises(BadThing) as caught:
            call(*arguments)
        self.assertEqual(caught.exception.thing, thing)
        self.assertIs(type(caught.exception.thing), type(thing))

    def test_the_example(self):
        store = FlowStore(5, 3, 8)
        self.assertEqual((len(store.words), store.write(3, 5), store.read(3), store.read(2)), (3, None, 5, 0))

    def test_how_many_words(self):
        for flows in list(range(1, 20)) + [64, 100, 1000]:
            for bits in range(9):
                for width in range(max(1, bits), 20):
                    store = FlowStore(flows, bits, width)
                    self.assertEqual(store.words, [0] * fewest_words(flows, bits, width), (flows, bits, width))
        for (flows, bits, width), right in (((10, 3, 3), 10), ((10, 3, 5), 10), ((10, 3, 6), 5), ((9, 3, 6), 5),
                                            ((10, 3, 30), 1), ((11, 3, 30), 2), ((1, 8, 8), 1), ((7, 1, 8), 1),
                                            ((8, 1, 8), 1), ((9, 1, 8), 2), ((300, 0, 1), 0)):
            self.assertEqual(len(FlowStore(flows, bits, width).words), right)

    def test_against_a_dict(self):
        dice = random.Random(270)
        for _ in range(150):
            flows, bits = dice.randint(1, 30), dice.randint(0, 12)
            width = max(1, bits) + dice.choice((0, 0, 1, bits, 3 * bits, dice.randint(0, 40)))
            store = FlowStore(flows, bits, width)
            right = {}
            for _ in range(60):
                flow = dice.randrange(flows)
                if dice.random() < 0.6:
                    right[flow] = dice.choice((0, 2 ** bits - 1, dice.randrange(2 ** bits)))
                    self.assertIsNone(store.write(flow, right[flow]))
                else:
                    self.assertEqual(store.read(flow), right.get(flow, 0))
                self.assertTrue(all(0 <= word < 2 ** width for word in store.words))
            self.assertEqual([store.read(flow) for flow in range(flows)], [right.get(flow, 0) for flow in range(flows)])
            self.assertEqual(len(store.words), fewest_words(flows, bits, width))

    def test_all_is_in_the_words(self):
        # A store whose words are those of another one holds what it holds.
        one, other = FlowStore(7, 3, 7), FlowStore(7, 3, 7)
        for flow in range(7):
            one.write(flow, flow)
        other.words[:] = one.words
        self.assertEqual([other.read(flow) for flow in range(7)], list(range(7)))

    def test_a_state_lies_in_one_word(self):
        for flows, bits, width in ((9, 3, 8), (6, 5, 16), (5, 1, 2), (4, 7, 7)):
            store = FlowStore(flows, bits, width)
            for flow in range(flows):
                before = list(store.words)
                store.write(flow, 2 ** bits - 1)
                self.assertEqual(sum(one != two for one, two in zip(before, store.words)), 1)

    def test_no_bits(self):
        store = FlowStore(4, 0, 1)
        self.assertEqual((store.words, store.write(3, 0), store.read(3)), ([], None, 0))
        self.refuse(1, store.write, 3, 1)
        self.refuse(4, store.read, 4)
        self.refuse(4, store.write, 4, 1)
        self.assertEqual(store.read(3), 0)

    def test_stores_apart(self):
        one, other = FlowStore(3, 2, 4), FlowStore(3, 2, 4)
        one.write(1, 3)
        self.assertEqual((one.read(1), other.read(1)), (3, 0))

    def test_refused_flows(self):
        store = FlowStore(5, 3, 8)
        store.write(0, 7)
        store.write(4, 1)
        words = list(store.words)
        for flow in (5, 6, 100, -1, -5, None, "0", (0,), True, False):
            self.refuse(flow, store.read, flow)
            self.refuse(flow, store.write, flow, 2)
            # The flow counts ahead of the state.
            self.refuse(flow, store.write, flow, 8)
        self.assertEqual(store.words, words)

    def test_refused_states(self):
        for bits in range(1, 6):
            store = FlowStore(5, bits, 8)
            for flow in range(5):
                store.write(flow, 1)
            words = list(store.words)
            for state in (2 ** bits, 2 ** bits + 1, 2 ** 40, -1, -2 ** bits, None, "1", True):
                for flow in range(5):
                    self.refuse(state, store.write, flow, state)
            self.assertEqual(store.words, words)
            store.write(2, 2 ** bits - 1)
            self.assertEqual([store.read(flow) for flow in range(5)], [1, 1, 2 ** bits - 1, 1, 1])

    def test_refused_sizes(self):
        for sizes in ((0, 3, 8), (-1, 3, 8), (5, -1, 8), (5, 3, 0), (5, 0, 0), (5, 3, -8), (5, 3, 2), (5, 9, 8), (0, -1, 0),
                      (5, 1, 0), (0, 0, 1)):
            self.refuse(sizes, FlowStore, *sizes)
        for sizes in ((1, 0, 1), (1, 1, 1), (5, 8, 8), (1000, 3, 100)):
            self.assertEqual(FlowStore(*sizes).read(0), 0)
