"""Reads a text as a book of rules."""

from beatscan.derivatives import has_empty
from beatscan.errors import BadBook, BadText
from beatscan.linereader import LineReader

MOST_RULES = 8


def read_book(text):
    """The book of a text: a tuple of rules (name, is_first, is_last, tree)."""
    if not isinstance(text, str):
        raise BadText(0, 0)
    book = []
    for number, line in enumerate(text.split("\n"), start=1):
        rule = LineReader(line, number).rule()
        if rule is not None:
            book.append(rule)
    check_rules(book)
    return tuple(book)


def check_rules(book):
    """Raises BadBook for the first rule that a book may not have."""
    names = []
    for rule in book:
        name = rule[0]
        if name in names or has_empty(rule[3]) or len(names) == MOST_RULES:
            raise BadBook(name)
        names.append(name)
