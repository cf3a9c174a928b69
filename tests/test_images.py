import random
import unittest

from beatscan.bookreader import read_book
from beatscan.codes import rules_in
from beatscan.errors import BadThing
from beatscan.images import check_of, image_of, table_by
from beatscan.tables import table_of
from tests.books import EXAMPLE, TEXTS, any_table, least_of, random_tables, tables


class Images(unittest.TestCase):
    def check(self, table, rules):
        image = image_of(table, rules)
        self.assertIsInstance(image, tuple)
        self.assertTrue(all(type(byte) is int and 0 <= byte <= 255 for byte in image))
        self.assertEqual(table_by(image), (table, rules))
        self.assertEqual(image_of(table, rules), image)
        return image

    def refuse(self, thing):
        with self.assertRaises(BadThing) as caught:
            table_by(thing)
        self.assertIsNone(caught.exception.thing)

    def test_the_example(self):
        table = least_of(EXAMPLE)
        self.assertEqual(table_by(image_of(table, 2)), (table, 2))

    def test_least_tables(self):
        for table in tables() + random_tables(210, 10):
            for rules in range(rules_in(table), 9):
                self.check(table, rules)

    def test_tables_of_books(self):
        for text in TEXTS:
            table = table_of(read_book(text))
            self.check(table, rules_in(table))

    def test_any_tables(self):
        dice = random.Random(211)
        for states, classes, rules in [(1, 1, 0), (1, 256, 8), (2, 1, 8), (300, 1, 8), (300, 9, 0), (257, 256, 8)]:
            self.check(any_table(dice, states, classes, rules), rules)
        for _ in range(40):
            rules = dice.randint(0, 8)
            self.check(any_table(dice, dice.randint(1, 40), dice.randint(1, 40), rules), dice.randint(rules, 8))

    def test_each_number_of_rules_and_of_states(self):
        for rules in range(9):
            self.check(least_of("\n".join(f"r{at}: ^ {'a' * (at + 1)}" for at in range(rules))), rules)
        dice = random.Random(212)
        for states in (1, 2, 59, 60, 61, 255, 256, 257, 299, 300):
            self.check(any_table(dice, states, 3, 2), 2)

    def test_unlike_tables_have_unlike_images(self):
        found = tables()
        images = {image_of(table, 8) for table in found}
        self.assertEqual(len(images), len(set(found)))
        table = found[0]
        self.assertEqual(len({image_of(table, rules) for rules in range(9)}), 9)

    def test_too_many_rules(self):
        for rules in (9, 10, 255, 256, 1000):
            with self.assertRaises(BadThing) as caught:
                image_of(least_of(EXAMPLE), rules)
            self.assertEqual(caught.exception.thing, rules)

    def test_one_byte_changed(self):
        dice = random.Random(213)
        for table, rules in ((least_of(""), 0), (least_of("x: ^ ab"), 1), (any_table(dice, 3, 2, 8), 8)):
            image = self.check(table, rules)
            for at, byte in enumerate(image):
                # Each change of a bit, the neighbours and some others, and all others ahead of the classes.
                others = {byte ^ (1 << bit) for bit in range(8)} | {0, 255, (byte + 1) % 256, (byte - 1) % 256}
                others |= {dice.randrange(256) for _ in range(8)} if 4 <= at < 260 else set(range(256))
                for other in others - {byte}:
                    self.refuse(image[:at] + (other,) + image[at + 1:])

    def test_one_byte_changed_in_large_images(self):
        dice = random.Random(214)
        for table in tables() + [any_table(dice, 60, 20, 8), any_table(dice, 300, 4, 3)]:
            image = image_of(table, rules_in(table))
            for at in [0, 1, 2, 3, 4] + [dice.randrange(len(image)) for _ in range(30)] + [-1, -2, -3, -4, -5]:
                at %= len(image)
                other = (image[at] + dice.randint(1, 255)) % 256
                self.refuse(image[:at] + (other,) + image[at + 1:])

    def test_beginnings(self):
        dice = random.Random(215)
        for table in (least_of(""), least_of(EXAMPLE), any_table(dice, 5, 4, 8)):
            image = image_of(table, 8)
            for many in range(len(image)):
                self.refuse(image[:many])

    def test_a_byte_more(self):
        dice = random.Random(216)
        for table in (least_of(""), least_of(EXAMPLE), any_table(dice, 5, 4, 8)):
            image = image_of(table, 8)
            for byte in range(256):
                self.refuse(image + (byte,))
                self.refuse((byte,) + image)
            for at in range(0, len(image), 7):
                self.refuse(image[:at] + (dice.randrange(256),) + image[at:])

    def test_what_is_no_tuple_of_bytes(self):
        image = image_of(least_of("x: a"), 1)
        for thing in (None, 0, "", "image", b"", bytes(image), list(image), {}, (image,), image + (256,), image + (-1,),
                      image[:-1] + (256 + image[-1],), image[:-1] + (None,), image[:-1] + ("0",), ((),), (None,)):
            self.refuse(thing)
        # True is no integer, even where 1 stands.
        at = image.index(1)
        self.refuse(image[:at] + (True,) + image[at + 1:])

    def test_other_bytes(self):
        dice = random.Random(217)
        for many in (0, 1, 2, 3, 4, 5, 8, 256, 260, 264, 268, 300, 600):
            self.refuse((0,) * many)
            self.refuse((255,) * many)
            self.refuse(tuple(dice.randrange(256) for _ in range(many)))

    def test_two_bytes_changed_or_in_another_order(self):
        dice = random.Random(218)
        image = image_of(least_of(EXAMPLE), 2)
        for _ in range(300):
            other = list(image)
            one, two = dice.sample(range(len(image)), 2)
            other[one], other[two] = other[two], other[one]
            if tuple(other) != image:
                self.refuse(tuple(other))

    def test_bytes_that_are_checked_but_tell_of_no_table(self):
        # Each image has right bytes behind, that check those ahead.
        body = image_of(least_of("x: ^ ab"), 1)[:-4]
        table_by(body + check_of(body))
        ways = 4 + 256
        for at, byte in ((0, 0), (0, 9), (0, 255), (1, 0), (1, 255), (2, 1), (3, 0), (3, 2), (4, 3), (4, 255), (ways, 1),
                         (ways + 1, 3), (-1, 2), (-1, 128)):
            other = list(body)
            other[at] = byte
            if tuple(other) != body:
                self.refuse((*other, *check_of(other)))
        # Class 1 stands for byte 97 alone: without it there would be a gap.
        self.assertEqual([at for at in range(ways) if at >= 4 and body[at] == 1], [4 + 97])
        self.refuse(body[:4 + 97] + (0,) + body[4 + 98:] + check_of(body[:4 + 97] + (0,) + body[4 + 98:]))
