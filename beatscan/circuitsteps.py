"""What a circuit does with each byte and at a packet's end, for values of its memory, each worked out once."""

from beatscan.nets import columns_of, lanes_told
from beatscan.wide import asked_of_wide, told_by_wide


class CircuitSteps:
    """The steps of a circuit (net, bits, first, rules)."""

    def __init__(self, circuit):
        self.net, self.bits, _, self.rules = circuit
        self.steps = {}
        self.ends = {}

    def steps_of(self, memory):
        """For each byte the pair of the memory behind it and the rules told on it."""
        if memory not in self.steps:
            rows = [asked_of_wide(1, (byte,), False, memory) for byte in range(256)]
            self.steps[memory] = [(behind, told[0]) for behind, told in self.told(rows)]
        return self.steps[memory]

    def end_of(self, memory):
        """The rules told at a packet's end."""
        if memory not in self.ends:
            _, told = self.told([asked_of_wide(1, (), True, memory)])[0]
            self.ends[memory] = told[1]
        return self.ends[memory]

    def told(self, rows):
        """For each row of bits that is put into the net the pair of the memory behind it and of what is told."""
        outputs = lanes_told(self.net, columns_of(rows, self.net[0]), len(rows))
        found = []
        for lane in range(len(rows)):
            bits = tuple((column >> lane) & 1 for column in outputs)
            found.append(told_by_wide(1, bits, self.bits, self.rules))
        return found
