"""Nets for the tests, and an independent reading of what they tell."""

import itertools


def told(net, bits):
    """The outputs of a net, each signal asked for by its number."""
    inputs, gates, outputs = net
    known = {0: 0, 1: 1}

    def value(signal):
        if signal not in known:
            if signal < 2 + inputs:
                known[signal] = bits[signal - 2]
            else:
                signals, words = gates[signal - 2 - inputs]
                text = "".join(str(value(part)) for part in signals)
                known[signal] = words[int(text, 2) if text else 0]
        return known[signal]

    return tuple(value(signal) for signal in outputs)


def all_bits(many):
    return list(itertools.product((0, 1), repeat=many))


def random_net(dice, inputs, gates, outputs, most=3):
    """A net with words as signals and outputs, a signal twice in a gate, equal gates, gates that nothing uses."""
    made = []
    for at in range(gates):
        if made and dice.random() < 0.15:
            made.append(dice.choice(made))
            continue
        # Mostly what came last, so that the net gets deep.
        near = range(max(0, 2 + inputs + at - 6), 2 + inputs + at)
        signals = tuple(dice.choice(near) if dice.random() < 0.7 else dice.randrange(2 + inputs + at)
                        for _ in range(dice.randint(0, most)))
        words = tuple(dice.randint(0, 1) for _ in range(1 << len(signals)))
        made.append((signals, words))
    return (inputs, tuple(made), tuple(dice.randrange(2 + inputs + gates) for _ in range(outputs)))


def ways_down(net):
    """How many gates stand behind one another up to an output at most, by going all ways down from the outputs."""
    inputs, gates, outputs = net
    known = {}

    def below(signal):
        if signal < 2 + inputs:
            return 0
        if signal not in known:
            known[signal] = 1 + max([below(part) for part in gates[signal - 2 - inputs][0]] + [0])
        return known[signal]

    return max([below(signal) for signal in outputs] + [0])


def is_right_net(net, fan):
    """Whether a net has the form of [15], its gates at most so many signals."""
    inputs, gates, outputs = net
    for at, (signals, words) in enumerate(gates):
        if len(signals) > fan or len(words) != 2 ** len(signals) or set(words) - {0, 1}:
            return False
        if any(not 0 <= signal < 2 + inputs + at for signal in signals):
            return False
    return all(0 <= signal < 2 + inputs + len(gates) for signal in outputs)
