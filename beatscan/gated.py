"""The machine of gates."""

from beatscan.codes import class_net, end_net, rules_in, state_bits, step_net
from beatscan.errors import BadThing
from beatscan.gathering import gathered
from beatscan.netchecks import check_nets
from beatscan.nets import net_told
from beatscan.wide import asked_of_wide, told_by_wide, wide_net


class Gated:
    """A machine that tells by a net of gates alone what a table tells, some bytes a beat."""

    def __init__(self, table, width, fan):
        if width < 1 or not 3 <= fan <= 6:
            raise BadThing((width, fan))
        self.width = width
        self.rules = rules_in(table)
        self.bits = state_bits(table)
        made = (class_net(table), step_net(table, self.rules), end_net(table, self.rules))
        self.nets = tuple(gathered(net, fan) for net in made)
        check_nets(self.nets, table, fan, self.rules)
        self.net = wide_net(self.nets, width, self.bits)
        # The bits of the state of each flow that was seen, those of state 0 behind a packet's end.
        self.store = {}

    def scan(self, beats):
        """The list of the reports (beat, flow, lane, rules) of beats, from the store of states as it is."""
        reports = []
        for number, beat in enumerate(beats):
            reports.extend([(number, beat[0], lane, rules) for lane, rules in self.beat_told(beat)])
        return reports

    def beat_told(self, beat):
        """The list of the (lane, rules) told of a beat."""
        flow, is_first, taken, is_last = beat
        start = (0,) * self.bits
        state = start if is_first else self.store.get(flow, start)
        outputs = net_told(self.net, asked_of_wide(self.width, taken, is_last, state))
        behind, told = told_by_wide(self.width, outputs, self.bits, self.rules)
        self.store[flow] = start if is_last else behind
        # What is told at the packet's end stands behind the beat's last byte.
        at_end = told.pop()
        lanes = list(enumerate(told))
        lanes.append((len(taken), at_end))
        return [(lane, rules) for lane, rules in lanes if rules]
