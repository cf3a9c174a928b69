"""That everything stands under the file that the interface lists it for, under its name, as [33] says."""

import importlib
import inspect
import unittest

LISTED = {
    "errors": ["ScanError", "BadThing", "BadText", "BadBook", "BadPaper", "BadNet"],
    "bytesets": ["set_of", "range_set", "has", "without", "ranges_of"],
    "trees": ["some", "row", "any_of", "all_of", "but", "again", "times"],
    "derivatives": ["has_empty", "derivative"],
    "bookreader": ["read_book"],
    "bookwriting": ["book_text"],
    "meaning": ["is_in", "told_in"],
    "tables": ["table_of", "run", "step", "state_behind"],
    "least": ["least", "bits_for"],
}
ARGUMENTS = {
    "BadThing": ["thing"], "BadText": ["line", "column"], "BadBook": ["name"], "BadPaper": ["at"],
    "BadNet": ["at", "why"],
    "set_of": ["numbers"], "range_set": ["first", "last"], "has": ["some", "byte"], "without": ["some"],
    "ranges_of": ["some"],
    "row": ["a", "b"], "any_of": ["trees"], "all_of": ["trees"], "but": ["a"], "again": ["a"],
    "times": ["a", "least", "most"],
    "has_empty": ["tree"], "derivative": ["tree", "byte"],
    "read_book": ["text"], "book_text": ["book"], "is_in": ["tree", "packet"], "told_in": ["book", "packet"],
    "table_of": ["book"], "run": ["table", "packet"], "step": ["table", "state", "byte"],
    "state_behind": ["table", "packet"], "least": ["table"], "bits_for": ["many"],
}


class Interface(unittest.TestCase):
    def test_each_name_is_defined_in_its_file(self):
        for file, names in LISTED.items():
            module = importlib.import_module(f"beatscan.{file}")
            for name in names:
                self.assertEqual(getattr(module, name).__module__, f"beatscan.{file}", name)

    def test_arguments_have_the_names_that_are_listed(self):
        for file, names in LISTED.items():
            module = importlib.import_module(f"beatscan.{file}")
            for name in names:
                if name in ARGUMENTS:
                    arguments = list(inspect.signature(getattr(module, name)).parameters)
                    self.assertEqual(arguments, ARGUMENTS[name], name)
