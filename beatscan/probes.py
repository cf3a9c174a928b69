"""Packets that show a circuit of any making right."""

from beatscan.circuitsteps import CircuitSteps
from beatscan.tables import run


def probes_for(paper, bytes_tried=None):
    """The ascending list of the packets of a beginning and an ending that a paper has, each once.

    Beginnings are also the bytes that lead to a state and one more byte of those to be tried.
    """
    reach, apart, _ = paper
    tried = list(range(256)) if bytes_tried is None else bytes_tried
    beginnings = [(), *reach]
    for way in reach:
        beginnings.extend([way + (byte,) for byte in tried])
    endings = {(): True}
    for of_state in apart:
        endings.update({ending: True for ending in of_state})
    return sorted({beginning + ending for beginning in beginnings for ending in endings})


def first_failing(circuit, table, packets):
    """The first of packets of which a circuit tells otherwise than a table, None if there is none."""
    steps = CircuitSteps(circuit)
    for packet in packets:
        if run_by_steps(steps, tuple(circuit[2]), packet) != run(table, packet):
            return packet
    return None


def run_by_steps(steps, memory, packet):
    """What a circuit whose steps are given tells of a packet, as circuit_run, from a value of its memory on."""
    told = []
    for byte in packet:
        memory, rules = steps.steps_of(memory)[byte]
        told.append(rules)
    told.append(steps.end_of(memory))
    return tuple(told)


def words_in(circuit, most):
    """How many values a circuit's memory can come to by bytes alone, or most + 1 if there are more than most."""
    steps = CircuitSteps(circuit)
    words = [tuple(circuit[2])]
    seen = {words[0]: True}
    at = 0
    while at < len(words) and len(words) <= most:
        ways = steps.steps_of(words[at])
        for word, _ in ways:
            if word not in seen:
                seen[word] = True
                words.append(word)
        at += 1
    return min(len(words), most + 1)


def is_shown_right(circuit, table, paper):
    """Whether a circuit's memory has at most as many values as the table has states, and no probe fails."""
    states = len(table[1])
    return words_in(circuit, states) <= states and first_failing(circuit, table, probes_for(paper)) is None
