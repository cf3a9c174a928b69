"""Nets that do what a table does, over the bits of bytes, classes and states."""

from beatscan.least import bits_for
from beatscan.nets import net_of_functions


def state_bits(table):
    """How many bits the number of a state has."""
    return bits_for(len(table[1]))


def class_bits(table):
    """How many bits the number of a class has."""
    return bits_for(max(table[0]) + 1)


def rules_in(table):
    """One more than the greatest rule a table tells of, 0 if it tells of none."""
    _, _, tells, ends = table
    told = [rule for row in (*tells, ends) for rules in row for rule in rules]
    return max(told, default=-1) + 1


def class_net(table):
    """A net from the bits of a byte to those of its class."""
    return net_of_functions(8, functions_of_numbers(table[0], class_bits(table)))


def step_net(table, rules):
    """A net from the bits of a class and of a state to those of the next state, then a bit for each rule told."""
    classes, rows, tells, _ = table
    bits = state_bits(table)
    pairs = [(state, number) for number in owners(max(classes) + 1) for state in owners(len(rows))]
    functions = functions_of_numbers([rows[state][number] for state, number in pairs], bits)
    functions.extend(functions_of_rules([tells[state][number] for state, number in pairs], rules))
    return net_of_functions(class_bits(table) + bits, functions)


def end_net(table, rules):
    """A net from the bits of a state to a bit for each rule told at the end."""
    ends = table[3]
    functions = functions_of_rules([ends[state] for state in owners(len(ends))], rules)
    return net_of_functions(state_bits(table), functions)


def owners(many):
    """For each value of the bits of so many numbers the number whose part it has, itself if it is one of them."""
    top = 1 << bits_for(many)
    # What is too great does as it would without its greatest bit, so that this bit need not be looked at.
    return [number if number < many else number - top // 2 for number in range(top)]


def functions_of_numbers(numbers, bits):
    """For each bit, the greatest first, its words in numbers."""
    return [tuple((number >> at) & 1 for number in numbers) for at in reversed(range(bits))]


def functions_of_rules(told, rules):
    """For each rule its words: whether it is among those that are told of each one."""
    return [tuple(int(rule in of_one) for of_one in told) for rule in range(rules)]
