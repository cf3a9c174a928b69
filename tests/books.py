"""Books, tables and beats for the tests."""

import random

from beatscan.bookreader import read_book
from beatscan.derivatives import has_empty
from beatscan.errors import BadThing
from beatscan.least import least
from beatscan.tables import table_of
from tests.rowsets import random_trees

EXAMPLE = "x: a b+   # one\ny: ^ (a|c){2} $"
FIRST = "word: cat | dog\nstart: ^ [0-9]{2,4} x\nstop: (.* & !(.* z .*)) q $"
TEXTS = [
    "", "x: a", "x: []", "x: .", "x: . $", "x: ^ a $", "x: ^ abc", EXAMPLE, FIRST,
    "x: ^ a\ny: a $\nz: ^ a $\nw: a", "x: a.{3}b", "x: (a|b)*a(a|b){2} $", "x: ^ !(.*aa.*) & .+ $\ny: aa",
    "x: [^a]a\ny: [\\x00-a]{2}", "x: !a & .\ny: ^ (ab|ba)+", "x: [\\x00]\ny: [\\xff] $",
    "k: ab\nl: b $\nm: ^ .{3}\nn: c+d", "x: ^ (aa)+ $\ny: ^ (aaa)+ $",
    "a: a\nb: b\nc: c\nd: d\ne: e $\nf: ^ f\ng: ^ g $\nh: ab|cd",
]
# What the largest byte is that stands in a text, and others.
SIGNS = (97, 98, 99, 100, 0, 255, 120, 48)


def least_of(text):
    return least(table_of(read_book(text)))


def tables():
    """The least tables of all texts."""
    return [least_of(text) for text in TEXTS]


def random_tables(seed, many, most_states=30):
    """Least tables of books of random trees."""
    dice = random.Random(seed)
    trees = [tree for tree in random_trees(seed, many * 12, 2) if not has_empty(tree)]
    found = []
    while len(found) < many:
        book = tuple((f"r{at}", dice.random() < 0.4, dice.random() < 0.4, dice.choice(trees))
                     for at in range(dice.randint(1, 3)))
        try:
            table = least(table_of(book))
        except BadThing:
            continue
        if 1 < len(table[1]) <= most_states:
            found.append(table)
    return found


def random_packet(dice, most, signs=SIGNS):
    return tuple(dice.choice(signs) for _ in range(dice.randint(0, most)))


def random_beats(dice, many, width, flows=(1, 2, 3), signs=SIGNS):
    """Beats of several flows: packets given up, begun without is_first, left open, beats of no bytes."""
    return [(dice.choice(flows), dice.random() < 0.15, random_packet(dice, width, signs), dice.random() < 0.25)
            for _ in range(many)]


def any_table(dice, states, classes, rules):
    """A table that need not be least: unlike states may do the same, or be led to by nothing."""
    numbers = list(range(classes)) + [dice.randrange(classes) for _ in range(256 - classes)]
    dice.shuffle(numbers)
    # Few ways and few things told, so that many entries are alike.
    targets = [dice.randrange(states) for _ in range(3)]
    told = [()] + [tuple(sorted(dice.sample(range(rules), dice.randint(0, rules)))) for _ in range(2)]
    rows = tuple(tuple(dice.choice(targets) for _ in range(classes)) for _ in range(states))
    tells = tuple(tuple(dice.choice(told) for _ in range(classes)) for _ in range(states))
    return (tuple(numbers), rows, tells, tuple(dice.choice(told) for _ in range(states)))
