"""Reads one line of a book, sign by sign, and tells the first place at which it is wrong."""

from beatscan.bytesets import EVERY_BYTE, range_set, set_of, without
from beatscan.errors import BadText
from beatscan.trees import EMPTY, again, all_of, any_of, but, row, size_of, some, times

# No line has this sign in it, so it stands for the end of one.
END = "\n"
FIGURES = "0123456789"
LETTERS = "abcdefghijklmnopqrstuvwxyzABCDEFGHIJKLMNOPQRSTUVWXYZ_"
SIXTEEN = "0123456789abcdef"
# The percent sign, which stands for itself nowhere, is told by its number.
PERCENT = 37
SPECIAL = "\\.[](){}|&!*+?^$#"
SPECIAL_IN_BRACKETS = "\\]^-"
MOST_TIMES = 20
MOST_SIZE = 300
MOST_DEPTH = 30


class LineReader:
    """A line, its number, and the place of the next sign; each method reads on from there."""

    def __init__(self, line, number):
        self.signs = line + END
        self.number = number
        self.place = 0

    def rule(self):
        """The rule of the line, or None if the line has none."""
        if self.next_sign() in ("#", END):
            return None
        name = self.rule_name()
        self.expect(":")
        is_first = self.takes("^")
        tree = self.pattern(1)
        is_last = self.takes("$")
        if self.next_sign() not in ("#", END):
            self.wrong(self.place)
        return (name, is_first, is_last, tree)

    def wrong(self, place):
        """Raises the error of a line that is wrong at a place."""
        raise BadText(self.number, place + 1)

    def sign(self):
        """The sign at the place."""
        return self.signs[self.place]

    def skip_blanks(self):
        """Goes on to the next sign that is no blank."""
        while self.sign() == " ":
            self.place += 1

    def next_sign(self):
        """The next sign that is no blank; the place is there."""
        self.skip_blanks()
        return self.sign()

    def takes(self, sign):
        """Whether a sign comes next; if so, it is read."""
        if self.next_sign() != sign:
            return False
        self.place += 1
        return True

    def expect(self, sign):
        """Reads a sign that must come next."""
        if not self.takes(sign):
            self.wrong(self.place)

    def rule_name(self):
        """A rule's name."""
        start = self.place
        if self.sign() not in LETTERS:
            self.wrong(start)
        while self.sign() in LETTERS or self.sign() in FIGURES:
            self.place += 1
        return self.signs[start:self.place]

    def pattern(self, depth):
        """A pattern; depth is how many patterns and signs of not are being read, this one too."""
        self.check_depth(depth)
        trees = [self.met_rows(depth)]
        while self.takes("|"):
            trees.append(self.met_rows(depth))
        return self.small(any_of(trees))

    def met_rows(self, depth):
        """Rows of pieces with the sign of all of between them."""
        trees = [self.row_of_pieces(depth)]
        while self.takes("&"):
            trees.append(self.row_of_pieces(depth))
        return self.small(all_of(trees))

    def row_of_pieces(self, depth):
        """Pieces one behind another."""
        pieces = [self.piece(depth)]
        size = size_of(pieces[0])
        while self.begins_piece():
            piece = self.piece(depth)
            # The pieces count even where the row is nothing or leaves them out.
            size += 1 + size_of(piece)
            if size > MOST_SIZE:
                self.wrong(self.place)
            pieces.append(piece)
        made = EMPTY
        for piece in reversed(pieces):
            made = row(piece, made)
        return made

    def begins_piece(self):
        """Whether a piece comes next."""
        sign = self.next_sign()
        return sign in ("!", "(", ".", "[", "\\") or stands_for_itself(sign, SPECIAL)

    def piece(self, depth):
        """A piece: not and a piece, or an atom and what stands behind it."""
        if self.takes("!"):
            self.check_depth(depth + 1)
            return self.small(but(self.piece(depth + 1)))
        tree = self.atom(depth)
        while self.next_sign() in ("*", "+", "?", "{"):
            tree = self.small(self.repeated(tree))
        return tree

    def repeated(self, tree):
        """The tree that the sign behind an atom makes of it."""
        if self.takes("*"):
            return again(tree)
        if self.takes("+"):
            return times(tree, 1, None)
        if self.takes("?"):
            return times(tree, 0, 1)
        return self.counted(tree)

    def counted(self, tree):
        """The tree that numbers in braces make of a tree."""
        start = self.place
        self.expect("{")
        least = self.number_of_times()
        most = least
        if self.takes(","):
            most = None if self.next_sign() == "}" else self.number_of_times()
        self.expect("}")
        greatest = least if most is None else most
        if greatest < least or size_of(tree) * greatest > MOST_SIZE:
            self.wrong(start)
        return times(tree, least, most)

    def number_of_times(self):
        """A number in braces."""
        self.skip_blanks()
        start = self.place
        while self.sign() in FIGURES:
            self.place += 1
        word = self.signs[start:self.place]
        if len(word) not in (1, 2) or (len(word) == 2 and word[0] == "0") or int(word) > MOST_TIMES:
            self.wrong(start)
        return int(word)

    def atom(self, depth):
        """A pattern in parentheses, any byte, a set in brackets, or a byte."""
        sign = self.next_sign()
        if self.takes("("):
            tree = self.pattern(depth + 1)
            self.expect(")")
            return tree
        if self.takes("."):
            return some(EVERY_BYTE)
        if self.takes("["):
            return some(self.set_in_brackets())
        return some(set_of([self.byte(SPECIAL)]))

    def byte(self, special):
        """The number of a sign that stands for itself, or of an escape; special are the signs that need one."""
        sign = self.sign()
        if sign == "\\":
            return self.escape(special)
        if not stands_for_itself(sign, special):
            self.wrong(self.place)
        self.place += 1
        return ord(sign)

    def escape(self, special):
        """The number of the byte of an escape."""
        start = self.place
        sign = self.signs[start + 1]
        if sign == " " or sign in special:
            self.place = start + 2
            return ord(sign)
        # Where the line ends too soon, its end is among these and is no figure.
        figures = [SIXTEEN.find(figure) for figure in self.signs[start + 2:start + 4]]
        if sign != "x" or -1 in figures:
            self.wrong(start)
        self.place = start + 4
        return figures[0] * 16 + figures[1]

    def set_in_brackets(self):
        """The set of the bytes and ranges up to the closing bracket."""
        is_other = self.sign() == "^"
        if is_other:
            self.place += 1
        chosen = 0
        while not self.takes("]"):
            chosen |= self.byte_or_range()
        return without(chosen) if is_other else chosen

    def byte_or_range(self):
        """The set of a byte or a range in brackets."""
        first = self.byte(SPECIAL_IN_BRACKETS)
        if self.sign() != "-":
            return set_of([first])
        dash = self.place
        self.place += 1
        last = self.byte(SPECIAL_IN_BRACKETS)
        if last < first:
            self.wrong(dash)
        return range_set(first, last)

    def check_depth(self, depth):
        """Raises the error of a line of which too much is read at once."""
        if depth > MOST_DEPTH:
            self.wrong(self.place)

    def small(self, tree):
        """The tree, if it is not too large."""
        if size_of(tree) > MOST_SIZE:
            self.wrong(self.place)
        return tree


def stands_for_itself(sign, special):
    """Whether a sign stands for its number; special are the signs that don't."""
    return "!" <= sign <= "~" and ord(sign) != PERCENT and sign not in special
