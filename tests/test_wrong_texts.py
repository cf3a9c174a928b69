import random
import unittest

from beatscan.bookreader import read_book
from beatscan.errors import BadBook, BadText
from beatscan.trees import size_of

# A line, and the column at which it is wrong.
SIGNS = [
    ("9x: a", 1), (": a", 1), ("-: a", 1), ("  $x: a", 3), ("x-y: a", 2), ("x%: a", 2), ("x\t: a", 2),
    ("x y: a", 3), ("x  9: a", 4), ("x^: a", 2),
    ("x: %", 4), ("x: a%", 5), ("x: a\tb", 5), ("x: a\r", 5), ("x: \x7f", 4), ("x: a\xe4", 5), ("\xe4: a", 1),
    ("x: |a", 4), ("x: &a", 4), ("x: a||b", 6), ("x: a&&b", 6), ("x: a|&b", 6), ("x: a| |b", 7), ("x: a | )", 8),
    ("x: *", 4), ("x: +a", 4), ("x: ?a", 4), ("x: {2}", 4), ("x: a|*", 6), ("x: (*a)", 5), ("x: !*", 5), ("x: !|a", 5),
    ("x: ()", 5), ("x: a()", 6), ("x: (a|)", 7), ("x: )", 4), ("x: a)", 5), ("x: (a))", 7), ("x: (a]", 6), ("x: a]", 5),
    ("x: ]", 4), ("x: }", 4), ("x: a}", 5), ("x: a{2}}", 8),
    ("x: ^^a", 5), ("x: a^", 5), ("x: (^a)", 5), ("x: a|^b", 6), ("x: ^$", 5), ("x: ^ |a", 6),
    ("x: $", 4), ("x: a$$", 6), ("x: a$b", 6), ("x: a $ *", 8), ("x: (a$)", 6), ("x: a|$", 6),
    ("x: a $ b # c", 8), ("x: (a|b $", 9),
    ("x # a", 3), ("x: # a", 4), ("x: (a # )", 7), ("x: a | # b", 8), ("x: ! # b", 6), ("x: ^ # b", 6), ("x: a{2 # }", 8),
    ("x: [a", 6), ("x: [a#", 7), ("x: [a%]", 6), ("x: [%]", 5), ("x: [\t]", 5), ("x: [\xe4]", 5), ("x: [^^]", 6),
    ("x: [a^]", 6), ("x: [ ^a]", 6), ("x: [^", 6), ("x: [", 5), ("x: []]", 6),
]
ENDS = [
    ("x", 2), ("  xy ", 6), ("x:", 3), ("x: ", 4), ("x:   ", 6), ("x: ^", 5), ("x: ^  ", 7), ("x: a|", 6), ("x: a | ", 8),
    ("x: a&", 6), ("x: !", 5), ("x: a!", 6), ("x: (", 5), ("x: (a", 6), ("x: (a|b", 8), ("x: ((a)", 8), ("x: (a  ", 8),
    ("x: a{", 6), ("x: a{2", 7), ("x: a{2,", 8), ("x: a{2,3", 9), ("x: a{ ", 7), ("x: [a-z", 8), ("x: [a-", 7),
    ("x: [^a ", 8),
]
ESCAPES = [
    ("x: \\", 4), ("x: a\\", 5), ("x: \\q", 4), ("x: \\n", 4), ("x: \\a", 4), ("x: \\-", 4), ("x: \\,", 4), ("x: \\%", 4),
    ("x: \\x", 4), ("x: \\x4", 4), ("x: \\x4g", 4), ("x: \\xg4", 4), ("x: \\xAB", 4), ("x: \\xaF", 4), ("x: \\X41", 4),
    ("x: \\x 41", 4), ("x: \\x4 1", 4), ("x: ab\\x4|", 6), ("x: a\\\t", 5), ("x: a | b \\= c", 10),
    ("x: [\\", 5), ("x: [a\\", 6), ("x: [\\.]", 5), ("x: [\\[]", 5), ("x: [\\n]", 5), ("x: [\\x4]", 5), ("x: [\\xA0]", 5),
    ("x: [a\\$]", 6), ("x: [a-\\q]", 7), ("x: [a-\\x6]", 7), ("x: [a-\\", 7),
]
NUMBERS = [
    ("x: a{}", 6), ("x: a{,3}", 6), ("x: a{b}", 6), ("x: a{ }", 7), ("x: a{-1}", 6), ("x: a{+1}", 6),
    ("x: a{2,b}", 8), ("x: a{2,,}", 8), ("x: a{2,,3}", 8), ("x: a{2,3,4}", 9), ("x: a{2;3}", 7), ("x: a{2-3}", 7),
    ("x: a{2 3}", 8), ("x: a{2x}", 7), ("x: a{2,3x}", 9), ("x: a{1 0}", 8),
    ("x: a{21}", 6), ("x: a{99}", 6), ("x: a{ 21}", 7), ("x: a{21,30}", 6), ("x: a{0,21}", 8), ("x: a{2,  21}", 10),
    ("x: a{21,3}", 6), ("x: a{21,", 6), ("x: a{21", 6),
    ("x: a{100}", 6), ("x: a{001}", 6), ("x: a{2,100}", 8), ("x: a{123", 6),
    ("x: a{00}", 6), ("x: a{01}", 6), ("x: a{09}", 6), ("x: a{0,02}", 8), ("x: a{ 01,2}", 7),
]
RANGES = [
    ("x: [b-a]", 6), ("x: [a-cz-y]", 9), ("x: [^b-a]", 7), ("x: [\\x62-a]", 9), ("x: [ 9-0]", 7), ("x: [b-\\x61]", 6),
    ("x: [a-]", 7), ("x: [a-b-c]", 8), ("x: [-a]", 5), ("x: [-]", 5), ("x: [a -b]", 7), ("x: [a- b]", 7), ("x: [a-^]", 7),
    ("x: [a--]", 7), ("x: [a-%]", 7), ("x: [^-a]", 6), ("x: [a-b -]", 9),
]
BRACES = [
    ("x: a{3,2}", 5), ("x: a{1,0}", 5), ("x: a {20, 19}", 6), ("x: (ab){3,2}c", 8), ("x: b|a{2}{3,2}", 10),
    ("x: (abcdefgh?){20}", 15), ("x: (abcdefgh?){1,20}", 15), ("x: (abcdefgh?){20,}", 15), ("x: a{20}{8}", 9),
    ("x: ^ z a{2}{20}{10,20}", 16),
]


def wrong_place(text):
    try:
        read_book(text)
    except BadText as error:
        return (error.line, error.column)
    return None


class WrongLines(unittest.TestCase):
    def check(self, cases):
        for line, column in cases:
            self.assertEqual(wrong_place(line), (1, column), line)
            self.assertEqual(wrong_place(f"z: a\n\n# c\n{line}"), (4, column), line)
            self.assertEqual(wrong_place(f"{line}\nz: a"), (1, column), line)

    def test_signs_with_which_no_right_line_goes_on(self):
        self.check(SIGNS)

    def test_the_end(self):
        self.check(ENDS)

    def test_escapes(self):
        self.check(ESCAPES)

    def test_numbers(self):
        self.check(NUMBERS)

    def test_ranges(self):
        self.check(RANGES)

    def test_braces(self):
        self.check(BRACES)

    def test_the_first_of_several_places(self):
        self.check([("x: a{21} \\q )", 6), ("x: [b-a] a{2,1}", 6), ("x: \\q a{21}", 4), ("x: a{3,2} \\q", 5), ("x: ) [b-a]", 4)])

    def test_the_first_wrong_line(self):
        self.assertEqual(wrong_place("x: a\ny: b)\nz: (\nw: \\q"), (2, 5))
        self.assertEqual(wrong_place("x: a\n\n#\n  \ny: )"), (5, 4))
        self.assertEqual(wrong_place("\n\n\nx"), (4, 2))

    def test_times_up_to_the_limit(self):
        for pattern in ["a{20}", "(abcdefgh){20,}", "a?{20}", "a{0}", "a{20}{0}"]:
            self.assertNotEqual(wrong_place(f"x: ;{pattern}"), (1, 5 + pattern.index("{")), pattern)
        self.assertIsNone(wrong_place("x: (abcdefg){20}"))
        self.assertEqual(size_of(read_book("x: (abcdefg){20}")[0][3]), 279)

    def test_no_string(self):
        for thing in [None, 5, b"x: a", ["x: a"], ("x: a",), {}, True]:
            with self.assertRaises(BadText) as caught:
                read_book(thing)
            self.assertEqual((caught.exception.line, caught.exception.column), (0, 0))


class Limits(unittest.TestCase):
    def wrong_line(self, text):
        """Which line is wrong, wherever: the column is free here."""
        place = wrong_place(text)
        return None if place is None else place[0]

    def test_sizes_of_rows(self):
        self.assertEqual(size_of(read_book("x: " + "a" * 150)[0][3]), 299)
        self.assertEqual(self.wrong_line("y: a\nx: " + "a" * 151), 2)
        self.assertEqual(self.wrong_line("x: " + "a" * 5000), 1)

    def test_just_at_the_limit(self):
        for pattern in ["a" * 149 + "b*", "a" * 50 + "|" + "b" * 50 + "|" + "c" * 51]:
            self.assertEqual(size_of(read_book(f"x: {pattern}")[0][3]), 300)
        for pattern in ["a" * 148 + "b*c*", "a" * 75 + "|" + "b" * 76]:
            self.assertEqual(self.wrong_line(f"x: {pattern}"), 1)

    def test_rows_are_counted_with_all_their_pieces(self):
        self.assertEqual(read_book("x: []" + "a" * 149)[0][3], ("nothing",))
        self.assertEqual(self.wrong_line("x: []" + "a" * 150), 1)
        self.assertEqual(self.wrong_line("x: " + "a" * 150 + "[]"), 1)
        self.assertIsNone(self.wrong_line("x: b{0}" + "a" * 149))
        self.assertEqual(self.wrong_line("x: b{0}" + "a" * 150), 1)
        self.assertEqual(self.wrong_line("x: b | " + "a" * 151), 1)
        self.assertEqual(self.wrong_line("x: (" + "a" * 100 + ")(" + "a" * 51 + ")"), 1)

    def test_sizes_of_other_trees(self):
        self.assertIsNone(self.wrong_line("x: " + "|".join("ab" * 100)))
        self.assertIsNone(self.wrong_line("x: " + "a" * 148 + "|bb"))
        self.assertEqual(self.wrong_line("x: " + "a" * 149 + "|bb"), 1)
        long = "|".join(a + b + c for a in "abcd" for b in "abcd" for c in "abcd")
        self.assertEqual(self.wrong_line("x: " + long), 1)
        self.assertEqual(self.wrong_line("x: b | " + long.replace("|", "*&")), 1)
        self.assertEqual(self.wrong_line("x: " + "a" * 100 + "|" + "b" * 60), 1)
        self.assertEqual(self.wrong_line("x: ;(" + "a" * 75 + ")+"), 1)
        self.assertIsNone(self.wrong_line("x: ;(" + "a" * 74 + ")+"))
        self.assertEqual(self.wrong_line("x: a" + "+" * 20), 1)
        self.assertIsNone(self.wrong_line("x: a" + "*?" * 40 + "b"))
        self.assertEqual(self.wrong_line("x: a" + "*?" * 200 + "b"), 1)
        self.assertEqual(self.wrong_line("x: b | !(" + "a" * 150 + ")|" + "c"), 1)

    def test_many_times_of_what_collapses_is_right(self):
        self.assertEqual(read_book("x: " + "ab|" * 400 + "ab"), read_book("x: ab"))

    def test_how_many_are_open(self):
        for opened, closed in [("(", ")"), ("!", "")]:
            self.assertIsNone(self.wrong_line("x: b" + opened * 29 + "a" + closed * 29), opened)
            self.assertEqual(self.wrong_line("z: a\nx: b" + opened * 30 + "a" + closed * 30), 2, opened)
        self.assertIsNone(self.wrong_line("x: b" + "(!" * 14 + "a" + ")" * 14))
        self.assertIsNone(self.wrong_line("x: b" + "(!" * 14 + "!a" + ")" * 14))
        self.assertEqual(self.wrong_line("x: b" + "(!" * 15 + "a" + ")" * 15), 1)
        self.assertEqual(self.wrong_line("x: " + "(" * 5000), 1)
        self.assertEqual(self.wrong_line("x: " + "!" * 5000), 1)

    def test_what_is_closed_is_not_open(self):
        self.assertIsNone(self.wrong_line("x: " + "(a)!b" * 25))


class WrongBooks(unittest.TestCase):
    def name(self, text):
        with self.assertRaises(BadBook) as caught:
            read_book(text)
        return caught.exception.name

    def test_a_name_told_ahead(self):
        self.assertEqual(self.name("x: a\ny: b\nx: c\ny: d"), "x")

    def test_matches_the_empty_row(self):
        for pattern in ["a*", "a?", "a{0}", "a{0,3}", "!a", "a|b*", "^ a*", "a* $", "[]*", "!([]|a)"]:
            self.assertEqual(self.name(f"w: a\nx: {pattern}\ny: b*"), "x", pattern)

    def test_the_ninth(self):
        self.assertEqual(self.name("\n".join(f"r{at}: a" for at in range(9))), "r8")
        self.assertEqual(self.name("\n".join(f"r{at}: a" for at in range(12))), "r8")

    def test_the_first_such_rule(self):
        rules = [f"r{at}: a" for at in range(9)]
        self.assertEqual(self.name("\n".join(rules[:7] + ["r3: a"] + rules[7:])), "r3")
        self.assertEqual(self.name("\n".join(rules[:2] + ["q: a*", "r0: a"] + rules[2:])), "q")
        self.assertEqual(self.name("x: a\nx: b\ny: b*"), "x")
        self.assertEqual(self.name("x: b*\nz: b\nz: b*"), "x")
        self.assertEqual(self.name("\n".join(rules[:8] + ["r0: b*"])), "r0")

    def test_names_differ_by_each_sign(self):
        self.assertEqual(len(read_book("x: a\nX: a\nx_: a\nx0: a")), 4)

    def test_wrong_text_goes_first(self):
        for text in ["x: a*\ny: )", "x: a\nx: a\ny: \\q", "\n".join(f"r{at}: a" for at in range(9)) + "\nz"]:
            with self.assertRaises(BadText):
                read_book(text)


class WhereTheLineIsWrong(unittest.TestCase):
    """The sign told is the first with which no right line goes on: some right line begins with all ahead of it."""

    ENDINGS = ["", "a", ": a", "x: a", ")", "a)", "]", "a]", "2}", "}", "|a", "a))", "))", "a)))", ")))", "61", "1", "1]", "1)",
               "1))", "]))", "a]))", "])", "a])", "~]", "~])", "~]))", "2})", "2}))", "})", "}))", "9})", "9}", "9}))"]

    def test_random_lines(self):
        dice = random.Random(21)
        wrong = 0
        for _ in range(3000):
            line = "x: " + "".join(dice.choice("ab12 (())[[]]{{}}|&!*+?^$#\\-,.%x:") for _ in range(dice.randint(1, 9)))
            try:
                place = wrong_place(line)
            except BadBook:
                continue
            if place is None:
                continue
            wrong += 1
            ahead = line[:place[1] - 1]
            sign = line[place[1] - 1:place[1]]
            self.assertTrue(self.may_go_on(ahead), (line, place))
            if sign and sign not in "\\{-0123456789":
                for ending in self.ENDINGS:
                    self.assertEqual(wrong_place(ahead + sign + ending), place, (line, ending))
        self.assertGreater(wrong, 2000)

    def may_go_on(self, start):
        for ending in self.ENDINGS:
            try:
                if wrong_place(start + ending) is None:
                    return True
            except BadBook:
                return True
        return False
