"""Of what kind a thing is, for things that may be anything."""


def is_number(thing):
    """Whether a thing is an integer; True and False are none."""
    return isinstance(thing, int) and not isinstance(thing, bool)


def is_byte(thing):
    """Whether a thing is a byte."""
    return is_number(thing) and 0 <= thing <= 255


def is_packet(thing):
    """Whether a thing is a tuple of bytes."""
    return isinstance(thing, tuple) and all(is_byte(part) for part in thing)


def is_tuple_of(thing, many):
    """Whether a thing is a tuple of so many things."""
    return isinstance(thing, tuple) and len(thing) == many
