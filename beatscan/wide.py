"""Nets for several bytes a beat, and how the bits of beats are put into them and read from them."""

from beatscan.growing import Growing
from beatscan.nets import CHOICE, bits_of

BOTH = (0, 0, 0, 1)
# Whether there is a byte, and its 8 bits.
LANE_BITS = 9


def wide_net(nets, width, bits):
    """A net for so many lanes of the nets of classes, steps and ends, over so many bits of a state."""
    class_one, step_one, end_one = nets
    first = 2
    is_end = first + LANE_BITS * width
    grown = Growing(LANE_BITS * width + 1 + bits)
    state = tuple(range(is_end + 1, is_end + 1 + bits))
    told = []
    for lane in range(width):
        is_there = first + LANE_BITS * lane
        number = grown.placed(class_one, tuple(range(is_there + 1, is_there + LANE_BITS)))
        found = grown.placed(step_one, number + state)
        behind = found[:bits]
        state = tuple([grown.gate((is_there, old, new), CHOICE) for old, new in zip(state, behind)])
        told.extend([grown.gate((is_there, rule), BOTH) for rule in found[bits:]])
    told.extend([grown.gate((is_end, rule), BOTH) for rule in grown.placed(end_one, state)])
    return grown.with_outputs((*state, *told))


def asked_of_wide(width, taken, is_last, state):
    """The bits to put into a wide net for the bytes of a beat, whether the packet ends, and a state's bits."""
    asked = []
    for byte in taken:
        asked.extend((1, *bits_of(byte, 8)))
    asked.extend((0,) * (LANE_BITS * (width - len(taken))))
    return (*asked, int(is_last), *state)


def told_by_wide(width, outputs, bits, rules):
    """The pair of the next state's bits and the list of the rules told on each lane, then at the end."""
    left = outputs[bits:]
    return (outputs[:bits], [marked(left[at * rules:(at + 1) * rules]) for at in range(width + 1)])


def marked(marks):
    """The tuple of the rules whose bit is 1."""
    return tuple(rule for rule, mark in enumerate(marks) if mark)
