"""Every name, argument and default of the interface's sections that have landed."""

import importlib
import inspect
import unittest

CONSTANTS = {"nets": {"MOST_PONDS": 12, "MOST_BRIM": 60, "BRIM": 4, "WIDTH": 1}, "basins": {"MOST_POURS": 60}}

FUNCTIONS = {
    "nets": {"is_name": "(thing)"},
    "outlets": {
        "way_out": "(net, name)",
        "with_brim": "(net, name, brim)",
        "with_pipe": "(net, one, other, *, width=1)",
        "without_pipe": "(net, one, other)",
        "with_pond": "(net, name, *, brim=4)",
        "without_pond": "(net, name)",
    },
    "spills": {
        "most_spills": "(stand, name)",
        "can_spill": "(stand, name, times=1)",
        "spilling": "(stand)",
        "at_rest": "(stand)",
        "spilled": "(stand, name, times=1)",
        "soaked": "(stand)",
    },
    "rests": {
        "rested": "(stand)",
        "dry": "(stand)",
        "settled": "(stand)",
        "is_quiet": "(net, poured, counts)",
    },
    "shares": {"shares": "(net, poured)"},
    "lots": {
        "most_unspills": "(stand, lot)",
        "can_unspill": "(stand, lot, times=1)",
        "unspilled": "(stand, lot, times=1)",
        "greatest_lot": "(stand, *, without=())",
    },
    "whys": {
        "row_of_why": "(stand)",
        "is_row_of_why": "(stand, row)",
        "is_settled": "(stand)",
        "paper": "(stand)",
        "holds": "(stand, paper)",
    },
    "downs": {"over": "(stand)", "way_down": "(stand)"},
    "plays": {"moves": "(stand)", "moved": "(stand, move)", "played": "(stand, picks)"},
    "texts": {"basin_text": "(basin)", "read_basin": "(text)"},
    "lines": {"stand_line": "(stand)", "paper_line": "(paper)", "way_line": "(way)"},
}

METHODS = {
    ("nets", "Net"): {
        "__init__": "(self, brims, pipes=None)",
        "ponds": "(self)",
        "brim": "(self, name)",
        "soaks": "(self, name)",
        "width": "(self, one, other)",
        "outs": "(self, name)",
        "ins": "(self, name)",
        "brims": "(self)",
        "pipes": "(self)",
        "__eq__": "(self, other)",
        "__len__": "(self)",
        "__repr__": "(self)",
    },
    ("stands", "Stand"): {
        "__init__": "(self, net, poured=None, counts=None)",
        "net": "(self)",
        "poured": "(self, name)",
        "count": "(self, name)",
        "water": "(self, name)",
        "pours": "(self)",
        "counts": "(self)",
        "waters": "(self)",
        "__eq__": "(self, other)",
        "__repr__": "(self)",
    },
    ("basins", "Basin"): {
        "__init__": "(self, net=None)",
        "net": "(self)",
        "pours": "(self)",
        "stand": "(self)",
        "counts": "(self)",
        "waters": "(self)",
        "pour": "(self, name, pond, amount)",
        "back": "(self, name)",
        "dig": "(self, pond, *, brim=4)",
        "fill": "(self, pond)",
        "brim": "(self, pond, brim)",
        "pipe": "(self, one, other, *, width=1)",
        "cut": "(self, one, other)",
        "become": "(self, net, pours)",
        "spill": "(self, pond, times=1)",
        "unspill": "(self, lot, times=1)",
        "rest": "(self)",
        "settle": "(self)",
        "copied": "(self)",
        "__eq__": "(self, other)",
        "__len__": "(self)",
    },
    ("histories", "History"): {
        "__init__": "(self)",
        "do": "(self, deed)",
        "deeds": "(self)",
        "basin": "(self)",
        "without": "(self, at)",
        "lift": "(self, at)",
        "__len__": "(self)",
    },
    ("desk", "Desk"): {
        "__init__": "(self)",
        "say": "(self, row)",
        "say_all": "(self, rows)",
        "journal": "(self)",
        "at_work": "(self)",
        "basin": "(self, name)",
    },
}


def module(name):
    return importlib.import_module(f"backwater.{name}")


class InterfaceTest(unittest.TestCase):
    def test_constants(self):
        for file, constants in CONSTANTS.items():
            for name, worth in constants.items():
                with self.subTest(name):
                    self.assertIs(getattr(module(file), name).__class__, int)
                    self.assertEqual(getattr(module(file), name), worth)

    def test_functions_have_the_arguments_told(self):
        for file, functions in FUNCTIONS.items():
            for name, arguments in functions.items():
                with self.subTest(name):
                    function = getattr(module(file), name)
                    self.assertEqual(str(inspect.signature(function)), arguments)
                    self.assertEqual(function.__module__, f"backwater.{file}")

    def test_methods_stand_in_their_class_with_the_arguments_told(self):
        for (file, name), methods in METHODS.items():
            owner = getattr(module(file), name)
            for method, arguments in methods.items():
                with self.subTest(owner=name, method=method):
                    self.assertIn(method, vars(owner))
                    self.assertEqual(str(inspect.signature(vars(owner)[method])), arguments)


if __name__ == "__main__":
    unittest.main()
