"""That everything stands under the file that the interface lists it for, under its name, as [33] says."""

import importlib
import inspect
import unittest

LISTED = {
    "errors": ["ScanError", "BadThing", "BadText", "BadBook", "BadPaper", "BadNet"],
    "bytesets": ["set_of", "range_set", "has", "without", "ranges_of"],
    "trees": ["some", "row", "any_of", "all_of", "but", "again", "times"],
    "derivatives": ["has_empty", "derivative"],
    "bookreader": ["read_book"],
    "bookwriting": ["book_text"],
    "meaning": ["is_in", "told_in"],
    "tables": ["table_of", "run", "step", "state_behind"],
    "least": ["least", "bits_for"],
    "papers": ["paper_of", "is_paper", "told_from"],
    "same": ["apart_packet"],
    "beats": ["scan", "packets_in", "are_beats", "cut_packet", "mixed"],
    "nets": ["net_told", "lanes_told", "bits_of", "number_of", "check_net", "depth_of", "net_of_functions"],
    "codes": ["state_bits", "class_bits", "rules_in", "class_net", "step_net", "end_net"],
    "gathering": ["gathered"],
    "netchecks": ["wrong_class_net", "wrong_step_net", "wrong_end_net", "check_nets"],
    "wide": ["wide_net"],
    "gated": ["Gated"],
    "fooled": ["check_circuit", "circuit_run", "circuit_of", "failing_packet", "fooled"],
    "defaults": ["is_tree", "best_tree", "entries_of", "is_best", "most_looks", "default_run"],
    "images": ["image_of", "table_by"],
    "clocks": ["Clocked", "fed", "most_clocks"],
    "banks": ["Banked", "banked_run"],
    "probes": ["probes_for", "first_failing", "words_in", "is_shown_right"],
    "stages": ["many_stages", "registers_in", "Staged", "staged_run"],
    "nettexts": ["net_text", "net_by"],
    "smaller": ["shortest_in", "is_within", "is_alike", "smaller"],
    "flowstores": ["FlowStore"],
    "whole": ["least_table", "gates_for", "clocked_for", "named_reports"],
}
METHODS = {
    ("gated", "Gated"): {"scan": ["beats"]},
    ("clocks", "Clocked"): {"clock": ["beat", "is_ready"], "is_empty": []},
    ("banks", "Banked"): {"load": ["table"], "switch": [], "give_up": ["flow"], "beat": ["told"]},
    ("stages", "Staged"): {"clock": ["bits"]},
    ("flowstores", "FlowStore"): {"read": ["flow"], "write": ["flow", "state"]},
}
TABLE = ((0,) * 256, ((0,),), (((),),), ((),))
# The attributes that are listed for a class, and arguments for an object of it.
ATTRIBUTES = {
    ("errors", "BadThing"): ((5,), ["thing"]), ("errors", "BadText"): ((1, 2), ["line", "column"]),
    ("errors", "BadBook"): (("x",), ["name"]), ("errors", "BadPaper"): ((3,), ["at"]),
    ("errors", "BadNet"): ((3, "why"), ["at", "why"]),
    ("gated", "Gated"): ((TABLE, 1, 3), ["nets", "net", "bits"]),
    ("clocks", "Clocked"): ((TABLE, 1, 2), ["store", "first", "second", "row", "out", "taken"]),
    ("banks", "Banked"): ((TABLE,), ["force", "count"]),
    ("flowstores", "FlowStore"): ((5, 3, 8), ["words"]),
}
ARGUMENTS = {
    "BadThing": ["thing"], "BadText": ["line", "column"], "BadBook": ["name"], "BadPaper": ["at"],
    "BadNet": ["at", "why"],
    "set_of": ["numbers"], "range_set": ["first", "last"], "has": ["some", "byte"], "without": ["some"],
    "ranges_of": ["some"],
    "row": ["a", "b"], "any_of": ["trees"], "all_of": ["trees"], "but": ["a"], "again": ["a"],
    "times": ["a", "least", "most"],
    "has_empty": ["tree"], "derivative": ["tree", "byte"],
    "read_book": ["text"], "book_text": ["book"], "is_in": ["tree", "packet"], "told_in": ["book", "packet"],
    "table_of": ["book"], "run": ["table", "packet"], "step": ["table", "state", "byte"],
    "state_behind": ["table", "packet"], "least": ["table"], "bits_for": ["many"],
    "paper_of": ["table"], "is_paper": ["table", "paper"], "told_from": ["table", "state", "packet"],
    "apart_packet": ["one", "other"],
    "scan": ["table", "beats"], "packets_in": ["beats"], "are_beats": ["thing", "width"],
    "cut_packet": ["flow", "packet", "sizes"], "mixed": ["rows", "turns"],
    "net_told": ["net", "bits"], "lanes_told": ["net", "columns", "many"], "bits_of": ["number", "many"],
    "number_of": ["bits"], "check_net": ["net", "fan"], "depth_of": ["net"], "net_of_functions": ["many", "functions"],
    "state_bits": ["table"], "class_bits": ["table"], "rules_in": ["table"], "class_net": ["table"],
    "step_net": ["table", "rules"], "end_net": ["table", "rules"],
    "gathered": ["net", "fan"], "wrong_class_net": ["net", "table"], "wrong_step_net": ["net", "table"],
    "wrong_end_net": ["net", "table"], "check_nets": ["nets", "table", "fan", "rules"],
    "wide_net": ["nets", "width", "bits"], "Gated": ["table", "width", "fan"],
    "check_circuit": ["circuit", "fan"], "circuit_run": ["circuit", "packet"], "circuit_of": ["nets", "bits", "rules"],
    "failing_packet": ["circuit", "table"], "fooled": ["circuit", "paper"],
    "is_tree": ["table", "tree"], "best_tree": ["table"], "entries_of": ["table", "tree"], "is_best": ["table", "tree"],
    "most_looks": ["tree"], "default_run": ["table", "tree", "packet"], "image_of": ["table", "rules"],
    "Clocked": ["table", "width", "size"], "fed": ["machine", "beats", "readies"],
    "most_clocks": ["width", "beats", "readies"], "Banked": ["table"], "banked_run": ["table", "deeds"],
    "probes_for": ["paper", "bytes_tried"], "first_failing": ["circuit", "table", "packets"],
    "words_in": ["circuit", "most"], "is_shown_right": ["circuit", "table", "paper"],
    "many_stages": ["net", "most"], "registers_in": ["net", "most"], "Staged": ["net", "most"],
    "staged_run": ["net", "most", "rows"], "net_text": ["net"], "net_by": ["text"], "shortest_in": ["tree"],
    "is_within": ["one", "other"], "is_alike": ["one", "other"], "smaller": ["tree"],
    "FlowStore": ["flows", "bits", "width"], "least_table": ["text"], "gates_for": ["text", "width", "fan"],
    "clocked_for": ["text", "width", "size"], "named_reports": ["book", "reports"],
}


class Interface(unittest.TestCase):
    def test_each_name_is_defined_in_its_file(self):
        for file, names in LISTED.items():
            module = importlib.import_module(f"beatscan.{file}")
            for name in names:
                self.assertEqual(getattr(module, name).__module__, f"beatscan.{file}", name)

    def test_arguments_have_the_names_that_are_listed(self):
        for file, names in LISTED.items():
            module = importlib.import_module(f"beatscan.{file}")
            for name in names:
                if name in ARGUMENTS:
                    arguments = list(inspect.signature(getattr(module, name)).parameters)
                    self.assertEqual(arguments, ARGUMENTS[name], name)

    def test_methods_stand_in_their_class(self):
        for (file, name), methods in METHODS.items():
            made = getattr(importlib.import_module(f"beatscan.{file}"), name)
            for method, arguments in methods.items():
                self.assertIn(method, vars(made), name)
                self.assertEqual(list(inspect.signature(vars(made)[method]).parameters)[1:], arguments, name)

    def test_attributes_are_set_when_an_object_is_created(self):
        for (file, name), (arguments, attributes) in ATTRIBUTES.items():
            made = getattr(importlib.import_module(f"beatscan.{file}"), name)(*arguments)
            for attribute in attributes:
                self.assertIn(attribute, vars(made), name)
