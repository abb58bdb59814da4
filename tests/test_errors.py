"""The interface's section backwater/errors.py."""

import inspect
import unittest

from backwater import errors

TREE = {
    ValueError: {"WaterError": ()},
    errors.WaterError: {
        "NetError": (), "StandError": (), "BasinError": (), "NoText": (), "NoRow": (), "BadPick": (),
        "Halted": ("at", "texts"),
    },
    errors.NetError: {
        "NoNet": (), "BadName": ("name",), "TooMany": ("kind",), "BadBrim": ("name",), "BadPipe": ("pair",),
        "TooWide": ("name", "side"), "Closed": ("names",), "NoPond": ("name",),
    },
    errors.StandError: {
        "BadPoured": ("name",), "BadCount": ("name",), "BadTimes": (), "CantSpill": ("name", "most"),
        "NotAtRest": ("name",), "BadLot": (), "CantUnspill": ("most",),
    },
    errors.BasinError: {
        "BadAmount": (), "BadPour": (), "Taken": ("name",), "NoPour": ("name",), "Joined": ("name",),
        "Wet": ("name",), "NoPipe": ("pair",), "BadDeed": (), "BadPlace": (), "Needed": ("at",),
        "NoBasin": ("name",), "AtWork": ("name",),
    },
}


class ErrorTest(unittest.TestCase):
    def test_each_stands_straight_under_the_one_told(self):
        for base, names in TREE.items():
            for name in names:
                with self.subTest(name):
                    self.assertEqual(getattr(errors, name).__bases__, (base,))

    def test_no_others_are_there(self):
        told = {name for names in TREE.values() for name in names}
        there = {name for name, kind in vars(errors).items() if inspect.isclass(kind)}
        self.assertEqual(there, told)

    def test_fields_are_set_when_made(self):
        for names in TREE.values():
            for name, fields in names.items():
                with self.subTest(name):
                    made = getattr(errors, name)(*[f"worth {field}" for field in fields])
                    self.assertEqual(vars(made), {field: f"worth {field}" for field in fields})

    def test_each_can_be_raised_and_caught_as_a_water_error(self):
        for names in TREE.values():
            for name, fields in names.items():
                with self.subTest(name), self.assertRaises(errors.WaterError):
                    raise getattr(errors, name)(*fields)


if __name__ == "__main__":
    unittest.main()
