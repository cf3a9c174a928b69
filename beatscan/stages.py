"""Nets cut into stages, so that at most so many gates stand behind one another in each."""

from beatscan.errors import BadThing
from beatscan.nets import levels_of, number_of


def stages_of(net, most):
    """For each signal its stage: its level, which is 0 for inputs and words, divided by most, and rounded up."""
    if most < 1:
        raise BadThing(most)
    return [(level + most - 1) // most for level in levels_of(net)]


def last_stage(net, stages):
    """The greatest stage of an output."""
    return max([stages[signal] for signal in net[2]], default=0)


def many_stages(net, most):
    """How many stages a net has: the greatest of its outputs' stages."""
    return last_stage(net, stages_of(net, most))


def registers_in(net, most):
    """How many registers hold values between stages: for each input and gate one for each stage that it goes on to."""
    inputs, gates, outputs = net
    stages = stages_of(net, most)
    last = last_stage(net, stages)
    wanted = [0] * len(stages)
    for at, (signals, _) in enumerate(gates):
        for signal in signals:
            wanted[signal] = max(wanted[signal], stages[2 + inputs + at])
    for signal in outputs:
        wanted[signal] = max(wanted[signal], last)
    # Words need no register, and inputs are there in the first stage.
    return sum(max(0, final - max(1, own)) for final, own in list(zip(wanted, stages))[2:])


class Staged:
    """A net that works bits stage by stage, those of a clock one stage ahead of those of the clock behind it."""

    def __init__(self, net, most):
        inputs, gates, self.outputs = net
        stages = stages_of(net, most)
        many = max(1, last_stage(net, stages))
        self.size = len(stages)
        # For each stage the list of its gates, with their signals; what stands behind all outputs isn't worked.
        self.work = [[] for _ in range(many)]
        for signal, gate in enumerate(gates, start=2 + inputs):
            if stages[signal] <= many:
                self.work[stages[signal] - 1].append((signal, gate))
        # The values that wait ahead of each stage but the first, None if there are none.
        self.held = [None] * (many - 1)

    def clock(self, bits):
        """What the net tells for the bits that reach the last stage in this clock, None if there are none."""
        coming = [self.values_for(bits), *self.held]
        worked = [values_behind(values, gates) for values, gates in zip(coming, self.work)]
        self.held = worked[:-1]
        if worked[-1] is None:
            return None
        return tuple(worked[-1][signal] for signal in self.outputs)

    def values_for(self, bits):
        """The values of all signals, those of gates not worked yet, for bits of the inputs; None for none."""
        if bits is None:
            return None
        values = [0, 1, *bits]
        return values + [0] * (self.size - len(values))

    def is_empty(self):
        """Whether no bits are on their way."""
        return all(values is None for values in self.held)


def values_behind(values, gates):
    """The values of all signals behind a stage of these gates, None for none."""
    if values is None:
        return None
    behind = list(values)
    for signal, (signals, words) in gates:
        behind[signal] = words[number_of([behind[part] for part in signals])]
    return behind


def staged_run(net, most, rows):
    """The list of what is told clock by clock for rows of bits, and then for none until all are out."""
    machine = Staged(net, most)
    told = []
    for bits in rows:
        told.append(machine.clock(bits))
    while not machine.is_empty():
        told.append(machine.clock(None))
    return told
