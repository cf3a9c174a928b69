"""[2] for all calls: no argument is changed, and each call made twice tells the same."""

import copy
import unittest

from beatscan import (
    banks, beats, bookreader, bookwriting, bytesets, clocks, codes, defaults, derivatives, flowstores, fooled, gated,
    gathering, images, least, meaning, netchecks, nets, nettexts, papers, probes, same, smaller, stages, tables, trees, whole,
    wide)
from beatscan.errors import BadBook, BadNet, BadText, BadThing
from tests.books import EXAMPLE, least_of
from tests.test_interface import LISTED

A, B = trees.some(1 << 97), trees.some(1 << 98)
BOOK = bookreader.read_book(EXAMPLE)
TABLE = least_of(EXAMPLE)
PAPER = papers.paper_of(TABLE)
NETS = (codes.class_net(TABLE), codes.step_net(TABLE, 2), codes.end_net(TABLE, 2))
CIRCUIT = fooled.circuit_of(NETS, 3, 2)
BEATS = [(1, True, (97,), False), (2, True, (99, 97), False), (1, False, (98, 98), False), (2, False, (), True)]
NET = (2, (((2, 3), (0, 0, 0, 1)), ((4, 2), (0, 1, 1, 0))), (4, 5))
CALLS = [
    (bytesets.set_of, [5, 97, 5]), (bytesets.range_set, 3, 9), (bytesets.has, 12, 3), (bytesets.without, 12),
    (bytesets.ranges_of, 12),
    (trees.some, 12), (trees.row, A, B), (trees.any_of, [B, A, trees.again(A)]), (trees.all_of, [trees.again(A), B]),
    (trees.but, A), (trees.again, A), (trees.times, A, 1, 3),
    (derivatives.has_empty, A), (derivatives.derivative, trees.row(A, B), 97),
    (bookreader.read_book, EXAMPLE), (bookwriting.book_text, BOOK),
    (meaning.is_in, A, (97,)), (meaning.told_in, BOOK, (97, 98)),
    (tables.table_of, BOOK), (tables.run, TABLE, (97, 98)), (tables.step, TABLE, 0, 97),
    (tables.state_behind, TABLE, (97, 98)), (least.least, tables.table_of(BOOK)), (least.bits_for, 7),
    (papers.paper_of, TABLE), (papers.is_paper, TABLE, PAPER), (papers.is_paper, TABLE, list(PAPER)),
    (papers.told_from, TABLE, 2, (98,)), (same.apart_packet, BOOK, BOOK[:1]),
    (beats.scan, TABLE, BEATS), (beats.packets_in, BEATS), (beats.are_beats, BEATS, 2),
    (beats.cut_packet, 7, (1, 2, 3), [1, 0, 1]), (beats.mixed, [BEATS[:2], BEATS[2:]], [1, 1, 0]),
    (nets.net_told, NET, [1, 0]), (nets.lanes_told, NET, [3, 1], 2), (nets.bits_of, 5, 4), (nets.number_of, [1, 1, 0]),
    (nets.check_net, NET, 3), (nets.check_net, NET, 1), (nets.depth_of, NET),
    (nets.net_of_functions, 2, [[0, 1, 1, 0], [0, 0, 0, 1]]),
    (codes.state_bits, TABLE), (codes.class_bits, TABLE), (codes.rules_in, TABLE), (codes.class_net, TABLE),
    (codes.step_net, TABLE, 2), (codes.end_net, TABLE, 2), (gathering.gathered, NETS[1], 4),
    (netchecks.wrong_class_net, NETS[0], TABLE), (netchecks.wrong_step_net, NETS[1], TABLE),
    (netchecks.wrong_end_net, NETS[2], TABLE), (netchecks.check_nets, list(NETS), TABLE, 3, 2),
    (netchecks.check_nets, [NETS[0], NETS[2], NETS[1]], TABLE, 3, 2), (wide.wide_net, list(NETS), 2, 3),
    (fooled.check_circuit, CIRCUIT, 3), (fooled.circuit_run, CIRCUIT, (97, 98)), (fooled.circuit_of, list(NETS), 3, 2),
    (fooled.failing_packet, CIRCUIT, TABLE), (fooled.fooled, ((10, (), (0, 0, 0, 0)), 0, (), 2), PAPER),
    (defaults.is_tree, TABLE, (-1,) + (0,) * 6), (defaults.is_tree, TABLE, [-1] + [0] * 6),
    (defaults.best_tree, TABLE), (defaults.entries_of, TABLE, (-1,) + (0,) * 6), (defaults.entries_of, TABLE, [-1, 0]),
    (defaults.is_best, TABLE, (-1,) + (0,) * 6), (defaults.most_looks, (-1, 0, 1)), (defaults.most_looks, [0]),
    (defaults.default_run, TABLE, (-1,) + (0,) * 6, (97, 98)),
    (images.image_of, TABLE, 2), (images.image_of, TABLE, 9), (images.table_by, images.image_of(TABLE, 2)),
    (images.table_by, [1, 2]),
    (clocks.most_clocks, 2, BEATS, [True]),
    (banks.banked_run, TABLE, [("beat", BEATS[0]), ("load", TABLE), ("switch",), ("give up", 1), ("beat", BEATS[1])]),
    (probes.probes_for, PAPER, [98, 97]), (probes.first_failing, CIRCUIT, TABLE, [(97,), (97, 98)]),
    (probes.words_in, CIRCUIT, 9), (probes.is_shown_right, CIRCUIT, TABLE, PAPER),
    (stages.many_stages, NET, 1), (stages.registers_in, NET, 1), (stages.staged_run, NET, 1, [[1, 1], [1, 0]]),
    (stages.staged_run, NET, 0, [[1, 1]]), (nettexts.net_text, NET), (nettexts.net_by, nettexts.net_text(NET)),
    (nettexts.net_by, "inputs"), (smaller.shortest_in, trees.row(B, A)), (smaller.is_within, A, trees.any_of([A, B])),
    (smaller.is_alike, A, B), (smaller.smaller, trees.any_of([trees.again(A), trees.row(A, A)])),
    (whole.least_table, EXAMPLE), (whole.least_table, "x"), (whole.least_table, "x: a*"),
    (whole.named_reports, BOOK, [(1, 8, 2, (1,)), (2, 7, 0, (0, 1))]),
]
# What a machine tells is a matter of what it was told ahead, too: it is made anew for each call.
MACHINES = [
    (gated.Gated, (TABLE, 2, 4), "scan", (BEATS,)), (clocks.Clocked, (TABLE, 2, 3), "clock", (BEATS[0], True)),
    (clocks.Clocked, (TABLE, 2, 3), "is_empty", ()), (banks.Banked, (TABLE,), "load", (TABLE,)),
    (banks.Banked, (TABLE,), "switch", ()), (banks.Banked, (TABLE,), "give_up", (1,)),
    (banks.Banked, (TABLE,), "beat", ((1, True, (97, 98), True),)),
    (stages.Staged, (NET, 1), "clock", ([1, 1],)), (stages.Staged, (NET, 2), "clock", ([1, 1],)),
    (flowstores.FlowStore, (5, 3, 8), "read", (4,)), (flowstores.FlowStore, (5, 3, 8), "write", (4, 8)),
    (whole.gates_for, (EXAMPLE, 2, 4), "scan", (BEATS,)), (whole.clocked_for, (EXAMPLE, 2, 3), "is_empty", ()),
]
# Errors, classes that are called by way of MACHINES, and what changes the machine that it is handed.
ELSEWHERE = {
    "ScanError", "BadThing", "BadText", "BadBook", "BadPaper", "BadNet", "Gated", "Clocked", "Banked", "fed", "Staged",
    "FlowStore", "gates_for", "clocked_for"}


def told(call, arguments):
    """What a call returns, or the error that it raises."""
    try:
        return call(*arguments)
    except (BadThing, BadNet, BadText, BadBook) as e:
        return ("raised", type(e), vars(e))


def spoil(thing):
    """Changes what was returned, so that it can't be returned again."""
    if isinstance(thing, list):
        thing.append("spoilt")
    elif isinstance(thing, dict):
        thing["spoilt"] = True


class Conventions(unittest.TestCase):
    def test_each_call_twice(self):
        for call, *arguments in CALLS:
            kept = copy.deepcopy(arguments)
            first = told(call, arguments)
            self.assertEqual(arguments, kept, call.__name__)
            right = copy.deepcopy(first)
            spoil(first)
            self.assertEqual(told(call, arguments), right, call.__name__)
            self.assertEqual(told(call, kept), right, call.__name__)
            self.assertEqual(arguments, kept, call.__name__)

    def test_each_method_of_two_machines(self):
        for made, arguments, method, more in MACHINES:
            kept = copy.deepcopy((arguments, more))
            results = [told(getattr(made(*arguments), method), more) for _ in range(2)]
            self.assertEqual(results[0], results[1], method)
            self.assertEqual((arguments, more), kept, method)

    def test_fed(self):
        beats_kept, readies = copy.deepcopy(BEATS), [False, True, False]
        found = []
        for _ in range(2):
            machine = clocks.Clocked(TABLE, 2, 3)
            found.append((clocks.fed(machine, BEATS, readies), machine.out))
        self.assertEqual(found[0], found[1])
        self.assertEqual((BEATS, readies), (beats_kept, [False, True, False]))

    def test_all_that_is_listed_is_called_here(self):
        called = {call[0].__name__ for call in CALLS} | ELSEWHERE
        self.assertEqual([name for names in LISTED.values() for name in names if name not in called], [])
