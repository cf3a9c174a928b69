"""Writes a book as a text that is read as the same book."""

from beatscan.bytesets import EVERY_BYTE, ranges_of
from beatscan.trees import pieces_of

# The signs that are written as themselves; their numbers begin at these.
FIGURES = "0123456789"
CAPITALS = "ABCDEFGHIJKLMNOPQRSTUVWXYZ"
LETTERS = "abcdefghijklmnopqrstuvwxyz"


def book_text(book):
    """A text that read_book reads as the book."""
    return "\n".join([rule_text(rule) for rule in book])


def rule_text(rule):
    """The line of a rule."""
    name, is_first, is_last, tree = rule
    start = "^ " if is_first else ""
    end = " $" if is_last else ""
    return f"{name}: {start}{pattern_text(tree)}{end}"


def pattern_text(tree):
    """A tree as a whole pattern."""
    if tree[0] == "any of":
        return " | ".join([row_text(part) for part in tree[1]])
    if tree[0] == "all of":
        return " & ".join([row_text(part) for part in tree[1]])
    return row_text(tree)


def row_text(tree):
    """A tree as pieces one behind another."""
    return " ".join([piece_text(piece) for piece in pieces_of(tree)])


def piece_text(tree):
    """A tree as one piece."""
    if tree[0] == "not":
        return "!" + piece_text(tree[1])
    if tree[0] == "again":
        return atom_text(tree[1]) + "*"
    if tree[0] == "empty":
        # No pattern is empty, but again nothing is the empty row.
        return "[]*"
    return atom_text(tree)


def atom_text(tree):
    """A tree as one atom."""
    if tree[0] == "nothing":
        return "[]"
    if tree[0] == "some":
        return set_text(tree[1])
    return f"({pattern_text(tree)})"


def set_text(chosen):
    """A set of bytes as an atom."""
    if chosen == EVERY_BYTE:
        return "."
    ranges = "".join([range_text(first, last) for first, last in ranges_of(chosen)])
    return f"[{ranges}]"


def range_text(first, last):
    """The bytes from first to last as they stand in brackets."""
    if first == last:
        return byte_text(first)
    return f"{byte_text(first)}-{byte_text(last)}"


def byte_text(byte):
    """A byte as it stands in brackets: a letter, a figure, or an escape."""
    for signs in (FIGURES, CAPITALS, LETTERS):
        at = byte - ord(signs[0])
        if 0 <= at < len(signs):
            return signs[at]
    return "\\x" + f"{byte:02x}"
