"""The clocked machine: a beat at a clock, worked two clocks later, and a row of reports that wait for the reader."""

from beatscan.beats import beat_told
from beatscan.errors import BadThing


class Clocked:
    """A machine of two stages that tells what a table tells, beats of at most width bytes, size reports in its row."""

    def __init__(self, table, width, size):
        if width < 1 or size < width + 1:
            raise BadThing((width, size))
        self.table = table
        self.width = width
        self.size = size
        self.store = {}
        # A stage holds (the beat's number, the beat, the state of its flow as it was when the beat came in).
        self.first = None
        self.second = None
        self.row = []
        self.out = []
        self.taken = 0

    def clock(self, beat, is_ready):
        """One clock, with a beat that is offered, or None; whether the machine went on and took it."""
        if is_ready and self.row:
            self.out.append(self.row.pop(0))
        if len(self.row) + self.width + 1 > self.size:
            return False
        worked = self.work_second()
        self.second = handed_on(self.first, worked)
        # The store is written ahead of the look that the offered beat takes at it.
        self.store.update(worked)
        self.first = self.taken_in(beat)
        return True

    def work_second(self):
        """Puts the reports of the second stage's beat into the row; a dict from its flow, if any, to its new state."""
        if self.second is None:
            return {}
        number, beat, state = self.second
        flow = beat[0]
        behind, told = beat_told(self.table, state, beat)
        self.row.extend([(number, flow, lane, rules) for lane, rules in told])
        return {flow: behind}

    def taken_in(self, beat):
        """What the first stage holds for a beat that is offered."""
        if beat is None:
            return None
        number = self.taken
        self.taken += 1
        return (number, beat, self.store.get(beat[0], 0))

    def is_empty(self):
        """Whether nothing is in the stages, and no report waits."""
        return self.first is None and self.second is None and not self.row


def handed_on(stage, worked):
    """What a stage holds, with the state that was worked just now if it is that of its beat's flow."""
    if stage is None:
        return None
    number, beat, state = stage
    return (number, beat, worked.get(beat[0], state))


def fed(machine, beats, readies):
    """Offers each beat until it is taken, and goes on until all is out; the reader is ready as told, then always."""
    clocks = 0
    at = 0
    while at < len(beats) or not machine.is_empty():
        is_ready = readies[clocks] if clocks < len(readies) else True
        beat = beats[at] if at < len(beats) else None
        if machine.clock(beat, is_ready):
            at += 1
        clocks += 1
    return clocks


def most_clocks(width, beats, readies):
    """How many clocks fed takes at most for a machine that is empty."""
    return len(readies) + len(beats) * (width + 2) + 4
