"""The whole way from a text to the machines."""

from beatscan.bookreader import read_book
from beatscan.clocks import Clocked
from beatscan.gated import Gated
from beatscan.least import least
from beatscan.papers import paper_of
from beatscan.tables import table_of


def least_table(text):
    """The book of a text, its least table, and a paper for this."""
    book = read_book(text)
    table = least(table_of(book))
    return (book, table, paper_of(table))


def table_by_text(text):
    """The least table of a text."""
    return least(table_of(read_book(text)))


def gates_for(text, width, fan):
    """The machine of gates of a text."""
    return Gated(table_by_text(text), width, fan)


def clocked_for(text, width, size):
    """The clocked machine of a text."""
    return Clocked(table_by_text(text), width, size)


def named_reports(book, reports):
    """The list of reports with the names of the rules, in their order, in their numbers' place."""
    return [(beat, flow, lane, tuple(book[rule][0] for rule in rules)) for beat, flow, lane, rules in reports]
