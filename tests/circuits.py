"""Circuits for the tests."""

from beatscan.codes import class_net, end_net, rules_in, state_bits, step_net
from beatscan.fooled import circuit_of
from beatscan.gathering import gathered
from tests.netsets import random_net


def right_circuit(table, fan=3):
    rules = rules_in(table)
    nets = (class_net(table), step_net(table, rules), end_net(table, rules))
    return circuit_of([gathered(net, fan) for net in nets], state_bits(table), rules)


def changed_circuits(dice, circuit, many):
    """Circuits with one word of one gate of the net changed, or one output."""
    (inputs, gates, outputs), *rest = circuit
    for _ in range(many):
        if gates and dice.random() < 0.7:
            at = dice.randrange(len(gates))
            signals, words = gates[at]
            place = dice.randrange(len(words))
            gate = (signals, words[:place] + (1 - words[place],) + words[place + 1:])
            yield ((inputs, gates[:at] + (gate,) + gates[at + 1:], outputs), *rest)
        elif outputs:
            at = dice.randrange(len(outputs))
            signal = dice.randrange(2 + inputs + len(gates))
            yield ((inputs, gates, outputs[:at] + (signal,) + outputs[at + 1:]), *rest)


def random_circuit(dice, bits, rules):
    net = random_net(dice, 10 + bits, dice.randint(3, 25), bits + 2 * rules)
    return (net, bits, tuple(dice.randint(0, 1) for _ in range(bits)), rules)


def with_a_bit_more(circuit, words_of_bit, first=0):
    """A circuit with one bit more, the last one of its memory: a gate of these words for (there is a byte, the bit)."""
    (inputs, gates, outputs), bits, start, rules = circuit
    moved = [signal if signal < 2 + inputs else signal + 1 for signal in range(2 + inputs + len(gates))]
    more = tuple((tuple(moved[signal] for signal in signals), words) for signals, words in gates)
    new = 3 + inputs + len(more)
    more += (((2, 2 + inputs), words_of_bit),)
    signals = [moved[signal] for signal in outputs]
    return ((inputs + 1, more, (*signals[:bits], new, *signals[bits:])), bits + 1, (*start, first), rules)


def with_other_words(circuit, flips):
    """A circuit that does the same, those bits of its memory that flips tells of turned over."""
    (inputs, gates, outputs), bits, start, rules = circuit
    moved = list(range(2 + inputs))
    more = []
    for at, flip in enumerate(flips):
        if flip:
            moved[12 + at] = 2 + inputs + len(more)
            more.append(((12 + at,), (1, 0)))
    for signals, words in gates:
        moved.append(2 + inputs + len(more))
        more.append((tuple(moved[signal] for signal in signals), words))
    signals = [moved[signal] for signal in outputs]
    for at, flip in enumerate(flips):
        if flip:
            more.append(((signals[at],), (1, 0)))
            signals[at] = 1 + inputs + len(more)
    first = tuple(bit ^ flip for bit, flip in zip(start, flips))
    return ((inputs, tuple(more), tuple(signals)), bits, first, rules)
