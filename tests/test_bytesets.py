import unittest

from beatscan.bytesets import has, range_set, ranges_of, set_of, without

ALL = 2 ** 256 - 1
LOTS = [[], [0], [255], [0, 255], [5, 97, 98, 99], [97], list(range(256)), list(range(0, 256, 2)),
        [1, 2, 3, 5, 6, 9], [254, 255], [0, 1]]


class Sets(unittest.TestCase):
    def test_the_example(self):
        self.assertEqual(ranges_of(set_of([5, 97, 98, 99])), [(5, 5), (97, 99)])
        self.assertIs(has(range_set(10, 20), 20), True)
        self.assertEqual(ranges_of(without(range_set(1, 255))), [(0, 0)])

    def test_a_set_has_bit_n_for_byte_n(self):
        self.assertEqual(set_of([]), 0)
        self.assertEqual(set_of([0]), 1)
        self.assertEqual(set_of([0, 3]), 9)
        self.assertEqual(set_of([255]), 2 ** 255)
        self.assertEqual(set_of(range(256)), ALL)

    def test_twice_and_in_any_order(self):
        self.assertEqual(set_of([7, 3, 7, 3, 3]), set_of([3, 7]))
        self.assertEqual(set_of((255, 0, 255)), set_of([0, 255]))

    def test_range_set(self):
        for first, last in [(0, 0), (255, 255), (0, 255), (10, 20), (97, 97), (0, 1), (254, 255)]:
            self.assertEqual(range_set(first, last), set_of(range(first, last + 1)))

    def test_has(self):
        for numbers in LOTS:
            chosen = set_of(numbers)
            for byte in range(256):
                self.assertIs(has(chosen, byte), byte in numbers)

    def test_without(self):
        self.assertEqual(without(0), ALL)
        self.assertEqual(without(ALL), 0)
        for numbers in LOTS:
            chosen = set_of(numbers)
            self.assertEqual(without(chosen), set_of([byte for byte in range(256) if byte not in numbers]))
            self.assertEqual(without(without(chosen)), chosen)

    def test_ranges_of(self):
        self.assertEqual(ranges_of(0), [])
        self.assertEqual(ranges_of(ALL), [(0, 255)])
        self.assertEqual(ranges_of(set_of([0])), [(0, 0)])
        self.assertEqual(ranges_of(set_of([255])), [(255, 255)])
        self.assertEqual(ranges_of(set_of([0, 255])), [(0, 0), (255, 255)])
        self.assertEqual(ranges_of(set_of([1, 2, 3, 5, 6, 9])), [(1, 3), (5, 6), (9, 9)])

    def test_ranges_that_touch_are_one_and_ones_apart_are_two(self):
        self.assertEqual(ranges_of(range_set(10, 20) | range_set(21, 30)), [(10, 30)])
        self.assertEqual(ranges_of(range_set(10, 20) | range_set(15, 30)), [(10, 30)])
        self.assertEqual(ranges_of(range_set(10, 20) | range_set(22, 30)), [(10, 20), (22, 30)])

    def test_ranges_of_are_the_set(self):
        for numbers in LOTS:
            made = 0
            for first, last in ranges_of(set_of(numbers)):
                made |= range_set(first, last)
            self.assertEqual(made, set_of(numbers))

    def test_arguments_are_not_changed(self):
        numbers = [9, 4, 4]
        set_of(numbers)
        self.assertEqual(numbers, [9, 4, 4])
