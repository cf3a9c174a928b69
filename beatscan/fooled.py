"""Circuits of any making: how they run, and packets of which they tell what is wrong.

A circuit is (net, bits, first, rules).
"""

from beatscan.circuitsteps import CircuitSteps
from beatscan.errors import BadThing
from beatscan.nets import check_net, net_told
from beatscan.searches import shortest_way
from beatscan.tables import step
from beatscan.wide import asked_of_wide, told_by_wide, wide_net


def check_circuit(circuit, fan):
    """Raises BadNet for a net that is not right, then BadThing(bits) for wrong numbers of its bits."""
    net, bits, first, rules = circuit
    check_net(net, fan)
    # Whether there is a byte, its 8 bits, and whether the packet ends stand ahead of the memory.
    if (net[0], len(net[2]), len(first)) != (10 + bits, bits + 2 * rules, bits):
        raise BadThing(bits)


def circuit_run(circuit, packet):
    """What a circuit tells of a packet, as run: one byte a beat, then a beat without one, at which the packet ends."""
    memory = circuit[2]
    found = []
    for byte in packet:
        memory, told = beat_behind(circuit, memory, (byte,), False)
        found.append(told[0])
    _, told = beat_behind(circuit, memory, (), True)
    found.append(told[1])
    return tuple(found)


def beat_behind(circuit, memory, taken, is_last):
    """The pair of a circuit's memory behind a beat and of the list of what it tells on its lane and at the end."""
    net, bits, _, rules = circuit
    return told_by_wide(1, net_told(net, asked_of_wide(1, taken, is_last, memory)), bits, rules)


def circuit_of(nets, bits, rules):
    """The circuit of a table's three nets."""
    return (wide_net(nets, 1, bits), bits, (0,) * bits, rules)


def failing_packet(circuit, table):
    """The shortest, then least packet of which a circuit tells otherwise than a table, None if there is none."""
    steps = CircuitSteps(circuit)

    def is_wrong(place):
        # None stands for the place behind a byte on which they tell unlike rules.
        return place is None or steps.end_of(place[1]) != table[3][place[0]]

    def ways_from(place):
        return [(byte, behind_both(steps, table, place, byte)) for byte in range(256)]

    return shortest_way((0, tuple(circuit[2])), is_wrong, ways_from)


def behind_both(steps, table, place, byte):
    """The state of a table and the memory of a circuit behind a byte, None if they tell unlike rules of it."""
    state, memory = place
    to, rules = step(table, state, byte)
    behind, told = steps.steps_of(memory)[byte]
    return (to, behind) if told == rules else None


def fooled(circuit, paper):
    """Two packets of a paper, of one of which a circuit tells otherwise than the paper's table, or None."""
    reach, apart, _ = paper
    memories = [memory_behind(circuit, way) for way in reach]
    for high, memory in enumerate(memories):
        low = memories.index(memory)
        if low < high:
            ending = apart[low][high - low - 1]
            return (reach[low] + ending, reach[high] + ending)
    return None


def memory_behind(circuit, packet):
    """The memory of a circuit behind the bytes of a packet."""
    memory = circuit[2]
    for byte in packet:
        memory = beat_behind(circuit, memory, (byte,), False)[0]
    return memory
