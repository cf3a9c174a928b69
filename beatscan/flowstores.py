"""A store of states: one of so many bits for each flow, in words of a memory."""

from beatscan.errors import BadThing
from beatscan.kinds import is_number


class FlowStore:
    """A memory of words of width bits that holds a state of so many bits for each of so many flows."""

    def __init__(self, flows, bits, width):
        if flows < 1 or bits < 0 or width < max(1, bits):
            raise BadThing((flows, bits, width))
        self.flows = flows
        self.bits = bits
        # How many states stand in a word; those of no bits need none.
        self.states = width // max(1, bits)
        many = (flows + self.states - 1) // self.states
        self.words = [0] * many if bits else []

    def read(self, flow):
        """The state that was written last for a flow, 0 at first."""
        self.check_flow(flow)
        if self.bits == 0:
            return 0
        at, shift = self.place_of(flow)
        return (self.words[at] >> shift) & self.every_bit()

    def write(self, flow, state):
        """Writes the state of a flow."""
        self.check_flow(flow)
        if not is_number(state) or state >> self.bits != 0:
            raise BadThing(state)
        if self.bits > 0:
            at, shift = self.place_of(flow)
            others = self.words[at] & ~(self.every_bit() << shift)
            self.words[at] = others | (state << shift)

    def check_flow(self, flow):
        """Raises BadThing for what is no flow of the store."""
        if not is_number(flow) or not 0 <= flow < self.flows:
            raise BadThing(flow)

    def place_of(self, flow):
        """The pair of the word that a flow's state is in, and of how many bits stand behind it there."""
        return (flow // self.states, flow % self.states * self.bits)

    def every_bit(self):
        """The number that has all bits of a state."""
        return (1 << self.bits) - 1
