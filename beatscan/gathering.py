"""Nets with fewer gates: gates are put into those that use them."""

from beatscan.growing import Growing
from beatscan.nets import bits_of, number_of


def gathered(net, fan):
    """A net that tells the same with gates of at most fan signals, no more of them, no deeper, each one used."""
    found = trimmed(net)
    while True:
        fewer = trimmed(Gathering(found, fan).gathered_once())
        if len(fewer[1]) == len(found[1]):
            return found
        found = fewer


def trimmed(net):
    """A net that tells the same without gates that are a signal that is ahead of them, or that nothing uses."""
    return with_used_gates(with_plain_gates(net))


def with_plain_gates(net):
    """A net that tells the same, each gate plain, none a word, one of its signals or equal to another gate."""
    inputs, gates, outputs = net
    grown = Growing(inputs)
    places = list(range(2 + inputs))
    known = {}
    for signals, words in gates:
        gate = plain_gate([places[signal] for signal in signals], words)
        if not gate[0]:
            places.append(gate[1][0])
        elif gate[1] == (0, 1):
            places.append(gate[0][0])
        else:
            if gate not in known:
                known[gate] = grown.gate(gate[0], gate[1])
            places.append(known[gate])
    return grown.with_outputs([places[output] for output in outputs])


def with_used_gates(net):
    """A net that tells the same with those gates alone on which an output depends."""
    inputs, gates, outputs = net
    used = {output: True for output in outputs}
    for at in reversed(range(len(gates))):
        if 2 + inputs + at in used:
            used.update({signal: True for signal in gates[at][0]})
    grown = Growing(inputs)
    places = list(range(2 + inputs))
    for at, (signals, words) in enumerate(gates):
        # What stands in the place of a gate that is left out is asked for by no one.
        is_used = 2 + inputs + at in used
        places.append(grown.gate(tuple(places[signal] for signal in signals), words) if is_used else 0)
    return grown.with_outputs([places[output] for output in outputs])


def plain_gate(signals, words):
    """A gate that tells the same: its signals ascend, none is a word, and on each of them it depends."""
    own = sorted({signal for signal in signals if signal > 1})
    return with_needed_signals(own, [
        word_for(signals, words, values_of(own, number)) for number in range(1 << len(own))])


def with_needed_signals(signals, words):
    """The gate that has of ascending signals only those on which it depends."""
    kept = list(signals)
    for signal in signals:
        bit = 1 << (len(kept) - 1 - kept.index(signal))
        low = [word for number, word in enumerate(words) if not number & bit]
        if low == [word for number, word in enumerate(words) if number & bit]:
            words = low
            kept.remove(signal)
    return (tuple(kept), tuple(words))


def values_of(signals, number):
    """A dict of the values of signals, read from a number, and of the words."""
    return dict(zip((0, 1, *signals), (0, 1, *bits_of(number, len(signals)))))


def word_for(signals, words, values):
    """What a gate tells for values of its signals."""
    return words[number_of([values[signal] for signal in signals])]


class Gathering:
    """The gates of a net while they are put into one another, and for each one which ones use it."""

    def __init__(self, net, fan):
        self.inputs, gates, self.outputs = net
        self.fan = fan
        self.gates = [((), (0,))] * len(gates)
        self.users = [[] for _ in gates]
        for at, gate in enumerate(gates):
            self.change(at, gate)

    def gathered_once(self):
        """The net, each gate put into all that use it, if it is no output and none of them gets too many signals."""
        for at in range(len(self.gates)):
            if self.signal_of(at) not in self.outputs:
                self.put_into_users(at)
        return (self.inputs, tuple(self.gates), self.outputs)

    def signal_of(self, at):
        """The signal of a gate."""
        return 2 + self.inputs + at

    def change(self, at, gate):
        """Puts another gate in the place of one."""
        for owner in self.gates_among(self.gates[at][0]):
            self.users[owner].remove(at)
        for owner in self.gates_among(gate[0]):
            self.users[owner].append(at)
        self.gates[at] = gate

    def gates_among(self, signals):
        """The list of the gates among signals."""
        return [signal - self.signal_of(0) for signal in signals if signal >= self.signal_of(0)]

    def put_into_users(self, at):
        """Puts a gate into all gates that use it, if none of them gets too many signals."""
        users = list(self.users[at])
        made = [self.put_together(at, user) for user in users]
        if None not in made:
            for user, gate in zip(users, made):
                self.change(user, gate)
            # Nothing uses it any more, so it is not to count as a user either.
            self.change(at, ((), (0,)))

    def put_together(self, at, user):
        """The gate that does what a gate and one that uses it do, None if it has too many signals."""
        inner = self.signal_of(at)
        signals, words = self.gates[at]
        user_signals, user_words = self.gates[user]
        own = sorted({signal for signal in signals + user_signals if signal != inner})
        if len(own) > self.fan:
            return None
        told = []
        for number in range(1 << len(own)):
            values = values_of(own, number)
            values[inner] = word_for(signals, words, values)
            told.append(word_for(user_signals, user_words, values))
        return with_needed_signals(own, told)
