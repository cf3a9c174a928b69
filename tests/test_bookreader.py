import unittest

from beatscan.bookreader import read_book
from beatscan.bytesets import range_set, set_of, without
from beatscan.trees import again, all_of, any_of, but, row, some, times
from tests.rowsets import is_in_form

EMPTY = ("empty",)
NOTHING = ("nothing",)
ANY = ("some", 2 ** 256 - 1)
NOT_ITSELF = "%\\.[](){}|&!*+?^$#"
NOT_ITSELF_IN_BRACKETS = "%\\]^-"
SIGNS = [chr(number) for number in range(33, 127)]


def sign(letter):
    return some(set_of([ord(letter)]))


A, B, C, D = sign("a"), sign("b"), sign("c"), sign("d")


def word(letters):
    made = EMPTY
    for letter in letters:
        made = row(made, sign(letter))
    return made


def tree_of(pattern):
    """The tree of a pattern, also of one that has the empty row: a row with `;` is read, and `;` taken off."""
    book = read_book(f"x: ; ({pattern})")
    tree = book[0][3]
    return EMPTY if tree == sign(";") else tree[2]


class Examples(unittest.TestCase):
    def test_of_the_interface(self):
        book = read_book("x: a b+   # one\ny: ^ (a|c){2} $")
        self.assertEqual([rule[:3] for rule in book], [("x", False, False), ("y", True, True)])
        self.assertEqual(book[0][3], row(A, row(B, again(B))))
        self.assertEqual(book[1][3], row(some(set_of([97, 99])), some(set_of([97, 99]))))

    def test_the_book_of_three_rules(self):
        book = read_book("word:  cat | dog            # anywhere\n"
                         "start: ^ [0-9]{2,4} x       # only from the packet's beginning\n"
                         "stop:  (.* & !(.* z .*)) q $  # only at its end, and no z ahead\n")
        no_z = but(row(again(ANY), row(sign("z"), again(ANY))))
        self.assertEqual(book, (
            ("word", False, False, any_of([word("cat"), word("dog")])),
            ("start", True, False, row(times(some(range_set(48, 57)), 2, 4), sign("x"))),
            ("stop", False, True, row(all_of([again(ANY), no_z]), sign("q")))))


class Lines(unittest.TestCase):
    def test_a_book_is_a_tuple_of_tuples(self):
        book = read_book("x: a")
        self.assertIsInstance(book, tuple)
        self.assertIsInstance(book[0], tuple)
        self.assertIs(book[0][1], False)
        self.assertIs(book[0][2], False)

    def test_no_rule(self):
        for text in ["", "\n", "   ", "# a\n\n  # b", "#", "  #x: a\n"]:
            self.assertEqual(read_book(text), ())

    def test_lines_without_more_and_comments(self):
        plain = read_book("x: a\ny: b")
        for text in ["x: a\ny: b\n", "\n\nx: a\n\n   \ny: b", "# one %{ \\ \t\nx: a # two\ny: b#three", "x:a#(\ny:b # #",
                     "  x  :  a  \n\ty: b".replace("\t", " ")]:
            self.assertEqual(read_book(text), plain, text)

    def test_names(self):
        names = ["x", "_", "cat", "Cat_9", "A1", "__", "zZ0123456789", "_7"]
        book = read_book("\n".join(f"{name}: a" for name in names))
        self.assertEqual([rule[0] for rule in book], names)

    def test_first_and_last(self):
        for text, wanted in [("x:a", (False, False)), ("x:^a", (True, False)), ("x:a$", (False, True)),
                             ("x:^a$", (True, True)), ("x :  ^  a  $  # c", (True, True)), ("x: a $#", (False, True))]:
            self.assertEqual(read_book(text)[0], ("x",) + wanted + (A,), text)

    def test_eight_rules(self):
        self.assertEqual(len(read_book("\n".join(f"r{at}: a" for at in range(8)))), 8)


class Bytes(unittest.TestCase):
    def test_signs_that_stand_for_themselves(self):
        for letter in SIGNS:
            if letter not in NOT_ITSELF:
                self.assertEqual(read_book(f"x: {letter}")[0][3], sign(letter), letter)

    def test_signs_behind_a_backslash(self):
        for letter in NOT_ITSELF[1:] + " ":
            self.assertEqual(read_book(f"x: \\{letter}")[0][3], sign(letter), letter)

    def test_by_figures(self):
        for number in range(256):
            self.assertEqual(read_book(f"x: \\x{number:02x}")[0][3], some(set_of([number])))
            self.assertEqual(read_book(f"x: [\\x{number:02x}]")[0][3], some(set_of([number])))

    def test_any_byte(self):
        self.assertEqual(tree_of("."), ANY)

    def test_an_escape_ends_behind_two_figures(self):
        self.assertEqual(tree_of("\\x611"), word("a1"))
        self.assertEqual(tree_of("\\#\\ a"), word("# a"))


class Brackets(unittest.TestCase):
    def test_signs_that_stand_for_themselves(self):
        for letter in SIGNS:
            if letter not in NOT_ITSELF_IN_BRACKETS:
                self.assertEqual(tree_of(f"[{letter}]"), sign(letter), letter)
                self.assertEqual(tree_of(f"[ {letter} ~]"), some(set_of([ord(letter), 126])), letter)

    def test_signs_behind_a_backslash(self):
        for letter in NOT_ITSELF_IN_BRACKETS[1:] + " ":
            self.assertEqual(tree_of(f"[\\{letter}]"), sign(letter), letter)
            self.assertEqual(tree_of(f"[a\\{letter}b]"), some(set_of([97, ord(letter), 98])), letter)

    def test_several(self):
        self.assertEqual(tree_of("[abc]"), some(set_of([97, 98, 99])))
        self.assertEqual(tree_of("[cabba]"), some(set_of([97, 98, 99])))
        self.assertEqual(tree_of("[#$(]"), some(set_of([35, 36, 40])))

    def test_ranges(self):
        self.assertEqual(tree_of("[a-c]"), some(range_set(97, 99)))
        self.assertEqual(tree_of("[a-a]"), A)
        self.assertEqual(tree_of("[a-cx0-9]"), some(range_set(97, 99) | range_set(48, 57) | set_of([120])))
        self.assertEqual(tree_of("[\\x00-\\xff]"), ANY)
        self.assertEqual(tree_of("[\\--\\]]"), some(range_set(45, 93)))
        self.assertEqual(tree_of("[\\ -#]"), some(range_set(32, 35)))
        self.assertEqual(tree_of("[!-~]"), some(range_set(33, 126)))

    def test_all_others(self):
        self.assertEqual(tree_of("[^a-c]"), some(without(range_set(97, 99))))
        self.assertEqual(tree_of("[^ a b ]"), some(without(set_of([97, 98]))))
        self.assertEqual(tree_of("[^\\^]"), some(without(set_of([94]))))

    def test_none(self):
        self.assertEqual(read_book("x: []")[0][3], NOTHING)
        self.assertEqual(read_book("x: [  ]")[0][3], NOTHING)
        self.assertEqual(tree_of("[^]"), ANY)
        self.assertEqual(read_book("x: [^\\x00-\\xff]")[0][3], NOTHING)

    def test_blanks_count_as_nothing(self):
        self.assertEqual(tree_of("[ a  b-c ]"), some(set_of([97, 98, 99])))


class Pieces(unittest.TestCase):
    def test_behind_an_atom(self):
        self.assertEqual(tree_of("a*"), again(A))
        self.assertEqual(tree_of("a+"), row(A, again(A)))
        self.assertEqual(tree_of("a?"), any_of([EMPTY, A]))
        self.assertEqual(tree_of("(ab)+"), row(word("ab"), again(word("ab"))))
        self.assertEqual(tree_of("[ab]*"), again(some(set_of([97, 98]))))
        self.assertEqual(tree_of(".?"), any_of([EMPTY, ANY]))

    def test_numbers(self):
        for numbers, least, most in [("0", 0, 0), ("1", 1, 1), ("2", 2, 2), ("20", 20, 20), ("0,0", 0, 0),
                                     ("0,1", 0, 1), ("2,4", 2, 4), ("9,10", 9, 10), ("3,3", 3, 3), ("0,20", 0, 20),
                                     ("0,", 0, None), ("1,", 1, None), ("3,", 3, None), ("20,", 20, None)]:
            self.assertEqual(tree_of(f"a{{{numbers}}}"), times(A, least, most), numbers)

    def test_blanks_ahead_of_numbers(self):
        self.assertEqual(tree_of("a{ 2}"), times(A, 2, 2))
        self.assertEqual(tree_of("a{   2,   4}"), times(A, 2, 4))
        self.assertEqual(tree_of("a{  2,}"), times(A, 2, None))

    def test_blanks_behind_numbers(self):
        self.assertEqual(tree_of("a{2 }"), times(A, 2, 2))
        self.assertEqual(tree_of("a{2 , 4 }"), times(A, 2, 4))
        self.assertEqual(tree_of("a{2 , }"), times(A, 2, None))

    def test_several_behind_an_atom(self):
        self.assertEqual(tree_of("a{2}{3}"), times(times(A, 2, 2), 3, 3))
        self.assertEqual(tree_of("a?{2}"), times(any_of([EMPTY, A]), 2, 2))
        self.assertEqual(tree_of("a+?"), any_of([EMPTY, row(A, again(A))]))
        self.assertEqual(tree_of("a**"), again(A))
        self.assertEqual(tree_of("a*?"), any_of([EMPTY, again(A)]))

    def test_what_stands_behind_binds_closest(self):
        self.assertEqual(tree_of("ab*"), row(A, again(B)))
        self.assertEqual(tree_of("a|b*"), any_of([A, again(B)]))

    def test_not(self):
        self.assertEqual(tree_of("!a"), but(A))
        self.assertEqual(tree_of("!a*"), but(again(A)))
        self.assertEqual(tree_of("(!a)*"), again(but(A)))
        self.assertEqual(tree_of("!ab"), row(but(A), B))
        self.assertEqual(tree_of("!(ab)"), but(row(A, B)))
        self.assertEqual(tree_of("!!a"), A)
        self.assertEqual(tree_of("!!!a"), but(A))
        self.assertEqual(tree_of("!a?{2}"), but(times(any_of([EMPTY, A]), 2, 2)))

    def test_order(self):
        self.assertEqual(tree_of("ab|cd"), any_of([word("ab"), word("cd")]))
        self.assertEqual(tree_of("ab&cd"), all_of([word("ab"), word("cd")]))
        self.assertEqual(tree_of("a*|b*&c*"), any_of([again(A), all_of([again(B), again(C)])]))
        self.assertEqual(tree_of("a*&b*|c*"), any_of([all_of([again(A), again(B)]), again(C)]))
        self.assertEqual(tree_of("a*&(b*|c*)"), all_of([again(A), any_of([again(B), again(C)])]))
        self.assertEqual(tree_of("!a|b*"), any_of([but(A), again(B)]))
        self.assertEqual(tree_of("!a&b*"), all_of([but(A), again(B)]))

    def test_rows_are_put_together_from_the_right(self):
        self.assertEqual(tree_of("abcd"), ("row", A, ("row", B, ("row", C, D))))
        self.assertEqual(tree_of("(ab)(cd)"), ("row", A, ("row", B, ("row", C, D))))
        self.assertEqual(tree_of("((ab)c)d"), ("row", A, ("row", B, ("row", C, D))))

    def test_any_of_and_all_of_at_once(self):
        self.assertEqual(tree_of("a|b|c"), some(set_of([97, 98, 99])))
        self.assertEqual(tree_of("a*|b|c*|d"), any_of([again(A), B, again(C), D]))
        self.assertEqual(tree_of("a*&b*&c*"), all_of([again(A), again(B), again(C)]))
        self.assertEqual(read_book("x: a&b&c*")[0][3], NOTHING)
        self.assertEqual(tree_of("a*|b*|!([])|c*"), but(NOTHING))

    def test_blanks_between_all_pieces(self):
        plain = read_book("x:^(a|b*)!c+[^d]{2,3}&.\\x61$")
        self.assertEqual(read_book("  x : ^ ( a | b * ) ! c + [^ d ] {  2,  3} & . \\x61 $ "), plain)
        self.assertEqual(read_book("x: a \\  b")[0][3], word("a b"))

    def test_what_is_read_is_in_the_one_form(self):
        for pattern in ["a|b|(c|d*)", "!(!a|b)&c*", "(a?b){2,3}|!(ab)*", "([]|a)*b?", "(a{0})(b{1})c{2,}"]:
            self.assertTrue(is_in_form(tree_of(pattern)), pattern)

    def test_equal_for_equal_texts(self):
        text = "x: (a|b)+ & !(c d)\ny: ^ q"
        self.assertEqual(read_book(text), read_book(text))
