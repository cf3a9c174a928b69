"""Nets that get more gates."""


class Growing:
    """The gates of a net of so many inputs, to which more are put."""

    def __init__(self, inputs):
        self.inputs = inputs
        self.gates = []

    def gate(self, signals, words):
        """The signal of a new gate."""
        self.gates.append((signals, words))
        return 1 + self.inputs + len(self.gates)

    def placed(self, net, signals):
        """The signals of the outputs of a net, all of its gates put here, its inputs being these signals."""
        _, gates, outputs = net
        places = [0, 1, *signals]
        for parts, words in gates:
            places.append(self.gate(tuple(places[part] for part in parts), words))
        return tuple(places[output] for output in outputs)

    def with_outputs(self, outputs):
        """The net that has these outputs."""
        return (self.inputs, tuple(self.gates), tuple(outputs))
