"""Nets of gates: what they tell, whether they are right, and nets for functions.

Signals are numbers: 0 and 1 are these words, inputs stand from 2 on, then gates, in their order.
"""

from beatscan.errors import BadNet
from beatscan.growing import Growing
from beatscan.kinds import is_number

# The words of the gate (bit, low, high): low where the bit is 0, high where it is 1.
CHOICE = (0, 0, 1, 1, 0, 1, 0, 1)


def net_told(net, bits):
    """The tuple of the outputs of a net for values of its inputs."""
    _, gates, outputs = net
    values = [0, 1, *bits]
    for signals, words in gates:
        values.append(words[number_of([values[signal] for signal in signals])])
    return tuple(values[signal] for signal in outputs)


def lanes_told(net, columns, many):
    """The outputs of a net in many lanes at once: each value is an integer with a bit for each lane."""
    _, gates, outputs = net
    every = (1 << many) - 1
    values = [0, every, *columns]
    for signals, words in gates:
        left = [every if word else 0 for word in words]
        for signal in reversed(signals):
            column = values[signal]
            left = [low ^ (column & (low ^ high)) for low, high in zip(left[::2], left[1::2])]
        values.append(left[0])
    return tuple(values[signal] for signal in outputs)


def columns_of(rows, many):
    """For each of so many places in rows of bits an integer with a bit for each row, as lanes."""
    return [sum(row[at] << lane for lane, row in enumerate(rows)) for at in range(many)]


def bits_of(number, many):
    """The tuple of so many bits of a number, the greatest first."""
    return tuple((number >> at) & 1 for at in reversed(range(many)))


def number_of(bits):
    """The number that has these bits, the greatest first."""
    number = 0
    for bit in bits:
        number = number * 2 + bit
    return number


def check_net(net, fan):
    """Raises BadNet for the first gate that is wrong, then for an output that isn't there."""
    inputs, gates, outputs = net
    ahead = 2 + inputs
    for at, (signals, words) in enumerate(gates):
        if len(signals) > fan:
            raise BadNet(at, f"more than {fan} signals")
        if not are_below(signals, ahead + at):
            raise BadNet(at, "a signal that is not ahead of the gate")
        if len(words) != 1 << len(signals) or not are_below(words, 2):
            raise BadNet(at, "not a word 0 or 1 for each value of the signals")
    if not are_below(outputs, ahead + len(gates)):
        raise BadNet(len(gates), "an output that is not there")


def are_below(numbers, many):
    """Whether all are numbers from 0 on that are less than so many."""
    return all(is_number(number) and 0 <= number < many for number in numbers)


def depth_of(net):
    """How many gates stand behind one another up to an output at most."""
    levels = levels_of(net)
    return max([levels[signal] for signal in net[2]], default=0)


def levels_of(net):
    """For each signal how many gates stand behind one another up to it at most, itself too."""
    inputs, gates, _ = net
    levels = [0] * (2 + inputs)
    for signals, _ in gates:
        levels.append(1 + max([levels[signal] for signal in signals], default=0))
    return levels


def net_of_functions(many, functions):
    """A net for functions of so many bits, each told by its words for all values of them, read as a number."""
    grown = Growing(many)
    known = {}
    outputs = []
    for words in functions:
        # 0 and 1 are signals, too: functions of no bit, to begin with, out of which those of one bit more are chosen.
        left = list(words)
        for bit in reversed(range(2, 2 + many)):
            left = [choice(bit, low, high, grown, known) for low, high in zip(left[::2], left[1::2])]
        outputs.append(left[0])
    return grown.with_outputs(outputs)


def choice(bit, low, high, grown, known):
    """The signal that is low where the bit is 0, and high where it is 1, by a gate if one is needed and not known."""
    if low == high:
        return low
    if (low, high) == (0, 1):
        return bit
    if (bit, low, high) not in known:
        known[bit, low, high] = grown.gate((bit, low, high), CHOICE)
    return known[bit, low, high]
