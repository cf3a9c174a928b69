"""Beats: the packets of many flows as they go by, some bytes at a time."""

from beatscan.kinds import is_packet
from beatscan.tables import step


def scan(table, beats):
    """The list of the reports (beat, flow, lane, rules) of what a table tells of the packets of all flows."""
    states = {}
    reports = []
    for number, beat in enumerate(beats):
        flow = beat[0]
        states[flow], told = beat_told(table, states.get(flow, 0), beat)
        reports.extend([(number, flow, lane, rules) for lane, rules in told])
    return reports


def beat_told(table, state, beat):
    """The pair of the state behind a beat of a flow that is in a state, and of the list of the (lane, rules) told.

    A flow is in state 0 if none of its packets is open.
    """
    _, is_first, taken, is_last = beat
    if is_first:
        state = 0
    told = []
    for lane, byte in enumerate(taken):
        state, rules = step(table, state, byte)
        if rules:
            told.append((lane, rules))
    if not is_last:
        return (state, told)
    rules = table[3][state]
    if rules:
        told.append((len(taken), rules))
    return (0, told)


def packets_in(beats):
    """The list of the packets (flow, bytes, end, places) of beats, as they begin."""
    packets = []
    begun = {}
    for number, (flow, is_first, taken, is_last) in enumerate(beats):
        if is_first or flow not in begun:
            begun[flow] = len(packets)
            packets.append((flow, (), None, ()))
        at = begun[flow]
        _, ahead, end, places = packets[at]
        if is_last:
            end = (number, len(taken))
            del begun[flow]
        packets[at] = (flow, ahead + taken, end, places + tuple((number, lane) for lane in range(len(taken))))
    return packets


def are_beats(thing, width):
    """Whether a thing is a list or a tuple of beats of at most so many bytes."""
    return isinstance(thing, (list, tuple)) and all(is_beat(part, width) for part in thing)


def is_beat(thing, width):
    """Whether a thing is a tuple of four, the third one a tuple of at most so many bytes."""
    return isinstance(thing, tuple) and len(thing) == 4 and is_packet(thing[2]) and len(thing[2]) <= width


def cut_packet(flow, packet, sizes):
    """The list of the beats of a packet, of so many bytes each, as far as there are, and of the rest, which ends it."""
    beats = []
    at = 0
    for size in sizes:
        beats.append((flow, not beats, packet[at:at + size], False))
        at += size
    beats.append((flow, not beats, packet[at:], True))
    return beats


def mixed(rows, turns):
    """The list of rows of beats made one: each turn tells of which row the next beat is, of those that have one."""
    left = [list(row) for row in rows if row]
    beats = []
    for turn in turns:
        if left:
            at = turn % len(left)
            beats.append(left[at].pop(0))
            if not left[at]:
                left.pop(at)
    for row in left:
        beats.extend(row)
    return beats
