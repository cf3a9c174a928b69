"""Tables as bytes, from which they are read again, and which are refused if one byte is wrong.

An image is: how many rules, the greatest class, and how many states there are, in two bytes; the 256 classes; the next
states, in two bytes each, state by state; the rules told on the steps, a byte each, a bit for each rule; the rules told
at the ends; and four bytes that check all those ahead.
"""

from beatscan.errors import BadThing
from beatscan.kinds import is_packet

MOST_RULES = 8
STATE_BYTES = 2
CHECK_BYTES = 4
HEAD_BYTES = 2 + STATE_BYTES
BYTES = 256


def image_of(table, rules):
    """The image of a table that tells of so many rules at most."""
    if rules > MOST_RULES:
        raise BadThing(rules)
    classes, rows, tells, ends = table
    image = [rules, max(classes), *bytes_of(len(rows), STATE_BYTES), *classes]
    for ways in rows:
        for state in ways:
            image.extend(bytes_of(state, STATE_BYTES))
    for told in (*tells, ends):
        image.extend([mask_of(of_one) for of_one in told])
    return (*image, *check_of(image))


def table_by(image):
    """The pair (table, rules) of an image; BadThing(None) for what is none."""
    if not is_packet(image) or not is_whole(image):
        raise BadThing(None)
    rules, many, states = head_of(image)
    classes = image[HEAD_BYTES:HEAD_BYTES + BYTES]
    first_told = HEAD_BYTES + BYTES + STATE_BYTES * states * many
    numbers = tuple(number_by(part) for part in cut(image[HEAD_BYTES + BYTES:first_told], STATE_BYTES))
    masks = image[first_told:-CHECK_BYTES]
    if not (are_all_classes(classes, many) and max(numbers) < states and max(masks) >> rules == 0):
        raise BadThing(None)
    told = tuple(rules_of(mask) for mask in masks)
    table = (classes, cut(numbers, many), cut(told[:-states], many), told[-states:])
    return (table, rules)


def is_whole(image):
    """Whether bytes are as many as their head tells, for a state at least, and end in those that check the others."""
    if len(image) < HEAD_BYTES:
        return False
    rules, many, states = head_of(image)
    if rules > MOST_RULES or states == 0 or len(image) != length_of(many, states):
        return False
    return image[-CHECK_BYTES:] == check_of(image[:-CHECK_BYTES])


def head_of(image):
    """How many rules, classes and states an image has."""
    return (image[0], image[1] + 1, number_by(image[2:HEAD_BYTES]))


def length_of(many, states):
    """How many bytes the image of a table of so many classes and states has."""
    return HEAD_BYTES + BYTES + states * (many * (STATE_BYTES + 1) + 1) + CHECK_BYTES


def check_of(image):
    """The bytes that check others: these added up, each one times its place, so that a change of any one tells."""
    total = sum(place * byte for place, byte in enumerate(image, start=1))
    return bytes_of(total, CHECK_BYTES)


def bytes_of(number, many):
    """The last so many bytes of a number, the greatest first."""
    return tuple((number >> (8 * at)) & 255 for at in reversed(range(many)))


def number_by(image):
    """The number that has these bytes, the greatest first."""
    number = 0
    for byte in image:
        number = number * 256 + byte
    return number


def mask_of(rules):
    """A number that has a bit for each of the rules."""
    return sum(1 << rule for rule in rules)


def rules_of(mask):
    """The rules of which a number has the bits."""
    return tuple(rule for rule in range(MOST_RULES) if (mask >> rule) & 1)


def are_all_classes(classes, many):
    """Whether these are the numbers from 0 on of so many classes, none of them left out."""
    return sorted(set(classes)) == list(range(many))


def cut(row, size):
    """The tuple of the parts of a row, of so many each."""
    return tuple(row[at:at + size] for at in range(0, len(row), size))
