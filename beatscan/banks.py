"""Two banks of tables, so that the book is changed while packets go by."""

from beatscan.beats import beat_told
from beatscan.errors import BadThing


class Banked:
    """A machine with two banks, one of them in force: packets that begin use it, and keep to it."""

    def __init__(self, table):
        self.force = 0
        self.count = 0
        self.tables = [table, None]
        self.versions = [0, None]
        self.newest = 0
        # For each flow of which a packet is open: its bank, and the state it is in.
        self.begun = {}

    def load(self, table):
        """Puts a table into the bank that is not in force, as the next version."""
        bank = 1 - self.force
        flows = sorted([flow for flow, (used, _) in self.begun.items() if used == bank])
        if flows:
            raise BadThing(flows)
        self.newest += 1
        self.tables[bank] = table
        self.versions[bank] = self.newest

    def switch(self):
        """Puts the other bank in force."""
        bank = 1 - self.force
        if self.tables[bank] is None:
            raise BadThing(None)
        self.force = bank

    def give_up(self, flow):
        """Gives up the open packet of a flow, if there is one."""
        self.begun.pop(flow, None)

    def beat(self, told):
        """The list of the reports (beat, flow, lane, rules, version) of a beat."""
        flow, is_first, _, is_last = told
        bank, state = self.begun.get(flow, (self.force, 0))
        if is_first:
            bank = self.force
        state, lanes = beat_told(self.tables[bank], state, told)
        self.begun[flow] = (bank, state)
        if is_last:
            self.give_up(flow)
        number = self.count
        self.count += 1
        return [(number, flow, lane, rules, self.versions[bank]) for lane, rules in lanes]


def banked_run(table, deeds):
    """The list of all reports of deeds, those that raise left out."""
    machine = Banked(table)
    reports = []
    for deed in deeds:
        try:
            reports.extend(reports_of_deed(machine, deed))
        except BadThing:
            # A deed that raises has changed nothing.
            pass
    return reports


def reports_of_deed(machine, deed):
    """Does a deed on a machine of banks; the list of its reports."""
    word = deed[0]
    if word == "beat":
        return machine.beat(deed[1])
    if word == "load":
        machine.load(deed[1])
    elif word == "switch":
        machine.switch()
    else:
        machine.give_up(deed[1])
    return []
