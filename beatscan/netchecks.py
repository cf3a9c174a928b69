"""Whether nets do what a table does."""

from beatscan.codes import class_bits, rules_in, state_bits
from beatscan.errors import BadNet
from beatscan.nets import bits_of, check_net, columns_of, lanes_told


def wrong_class_net(net, table):
    """The first byte whose class a net doesn't tell, None if there is none."""
    bits = class_bits(table)
    return first_wrong(net, [bits_of(byte, 8) for byte in range(256)], [bits_of(number, bits) for number in table[0]])


def wrong_step_net(net, table):
    """The first pair (state, class) of which a net doesn't tell the next state and the rules, None if there is none."""
    classes, rows, tells, _ = table
    bits = state_bits(table)
    number_bits = class_bits(table)
    whole = with_all_rules(net, bits, table)
    rules = len(whole[2]) - bits
    pairs = [(state, number) for state in range(len(rows)) for number in range(max(classes) + 1)]
    asked = [bits_of(number, number_bits) + bits_of(state, bits) for state, number in pairs]
    right = [bits_of(rows[state][number], bits) + marks_of(tells[state][number], rules) for state, number in pairs]
    at = first_wrong(whole, asked, right)
    return None if at is None else pairs[at]


def wrong_end_net(net, table):
    """The first state of whose end a net doesn't tell the rules, None if there is none."""
    ends = table[3]
    whole = with_all_rules(net, 0, table)
    asked = [bits_of(state, state_bits(table)) for state in range(len(ends))]
    return first_wrong(whole, asked, [marks_of(told, len(whole[2])) for told in ends])


def with_all_rules(net, bits, table):
    """A net with an output for each rule that a table tells of, behind its first so many bits."""
    inputs, gates, outputs = net
    # A rule that a net has no output for it never tells: that is the word 0.
    lacking = rules_in(table) - (len(outputs) - bits)
    if len(outputs) < bits:
        return net
    return (inputs, gates, outputs + (0,) * lacking)


def marks_of(told, rules):
    """A bit for each rule: whether it is told."""
    return tuple(int(rule in told) for rule in range(rules))


def first_wrong(net, asked, right):
    """The first place at which a net doesn't tell for the bits that are asked those that are right, or None."""
    inputs, _, outputs = net
    if (inputs, len(outputs)) != (len(asked[0]), len(right[0])):
        return 0
    wrong = 0
    told = lanes_told(net, columns_of(asked, inputs), len(asked))
    for told_column, right_column in zip(told, columns_of(right, len(outputs))):
        wrong |= told_column ^ right_column
    if wrong == 0:
        return None
    # The least bit that stands in it.
    return (wrong & -wrong).bit_length() - 1


def check_nets(nets, table, fan, rules):
    """Raises BadNet for the first of three nets that is no right net or doesn't do what a table does."""
    class_one, step_one, end_one = nets
    bits = state_bits(table)
    check_form(0, class_one, fan, 8, class_bits(table))
    check_told(0, wrong_class_net(class_one, table))
    check_form(1, step_one, fan, class_bits(table) + bits, bits + rules)
    check_told(1, wrong_step_net(step_one, table))
    check_form(2, end_one, fan, bits, rules)
    check_told(2, wrong_end_net(end_one, table))


def check_form(number, net, fan, inputs, outputs):
    """Raises BadNet for a net that is not right or has other numbers of inputs or outputs."""
    check_net(net, fan)
    if net[0] != inputs:
        raise BadNet(number, f"not {inputs} inputs")
    if len(net[2]) != outputs:
        raise BadNet(number, f"not {outputs} outputs")


def check_told(number, wrong):
    """Raises BadNet if there is something of which a net tells what is wrong."""
    if wrong is not None:
        raise BadNet(number, f"it is wrong at {wrong}")
