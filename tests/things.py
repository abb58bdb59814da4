"""What the tests hand in: nets, and things of every kind that is wrong somewhere."""

import unittest

from backwater.nets import Net

GREAT = 10 ** 40 - 1
"""The greatest number of forty figures."""


class Sly:
    """Alike to everything, with the hash of a name, so that a careless look-up finds it."""

    def __eq__(self, other):
        return True

    def __hash__(self):
        return hash("a")

    def __len__(self):
        raise AssertionError("asked for its length")

    def __repr__(self):
        raise AssertionError("asked for its repr")


class Mute:
    """Can be neither compared nor hashed nor shown."""

    __hash__ = None

    def __eq__(self, other):
        raise AssertionError("compared")

    def __bool__(self):
        raise AssertionError("asked for its truth")

    def __repr__(self):
        raise AssertionError("asked for its repr")


def deep_list():
    """A list nested deeper than Python recurses."""
    deep = []
    for _ in range(100_000):
        deep = [deep]
    return deep


NO_NAMES = [
    None, True, False, 0, 1, -1, GREAT, "", "A", "aB", "a1", "a b", " a", "a ", "a\n", "\n", "a_", "abcdefghi",
    "a" * 6000, "\u00e4", "\u0430", "\u00aa", b"a", ("a",), ("a", "b"), ((),), frozenset("a"), range(3), Sly(), object, len,
]
"""Things that are no NAMES and can be keys of a dict."""

NO_KEYS = [[], ["a"], {}, {"a": 1}, {"a"}, bytearray(b"a"), (["a"],), ([], "a"), Mute(), deep_list()]
"""Things that are no NAMES and can't be keys of a dict."""

NO_WHOLES = [
    None, True, False, "", "1", "a", b"1", [], [1], (), (1,), {}, {1: 1}, {1}, frozenset([1]), range(1), object(),
    Sly(), Mute(), int, deep_list(),
]
"""Things that are no whole numbers."""

NO_MEASURES = NO_WHOLES + [0, -1, 61, 62, GREAT, -GREAT]
"""Things that are neither brims nor widths."""

NO_COUNTS = NO_WHOLES + [-1, -2, -GREAT]
"""Things that are no whole numbers from 0 on."""

NO_TIMES = NO_WHOLES + [0, -1, -2, -GREAT]
"""Things that are no whole numbers from 1 on."""

NO_DICTS = [
    True, False, 0, 1, "", "a", b"", [], [("a", 4)], (), ("a",), {"a"}, set(), frozenset(), range(0), object(), Sly(),
    Mute(), dict, Net({}), Net({"a": 4}), deep_list(),
]
"""Things that are neither dicts nor None."""

NO_LOTS = [
    None, True, False, 0, 1, "", "a", "ab", b"a", {}, {"a": 1}, {"a"}, frozenset("a"), range(1), object(), Sly(), Mute(),
    list, Net({"a": 4}), [], (), [None], [True], [0], [""], ["A"], ["x"], ["ab"], ["a", "x"], ["x", "a"], ["a", "a"],
    ["a", "b", "a"], ("b", "b"), [["a"]], [("a",)], [["a"], "b"], ["a", None], ["a", 1], ["a", {}], [{"a": 1}], [b"a"],
    ["a", Sly()], [Sly()], ["a", Mute()], [Mute(), "a"], deep_list(), [deep_list()], ("a", deep_list()),
]
"""Things that are no lots of a net whose ponds are a, b and c, or a and b."""

NO_PAPERS = [
    None, True, False, 0, 1, "", "spill", "spill b", b"spill", [], (), ["spill", "b"], ["settled", []], ("spill",),
    ("settled",), ("spill", "b", "b"), ("settled", [], []), ("spill", None), ("spill", ["b"]), ("spill", ("b",)),
    ("spill", "x"), ("spill", ""), ("spill", True), ("spill", {}), ("unspill", "a"), ("unspill", "ab"), ("unspill", []),
    ("unspill", None), ("unspill", ["a", "a"]), ("unspill", ["x"]), ("unspill", {"a": 1}), ("settled", None),
    ("settled", "a"), ("settled", {}), ("settled", ["x"]), ("settled", ["a", "a"]), ("settled", True), ("rest", []),
    (None, "b"), (True, "b"), (0, []), ([], []), ({}, []), (("settled",), []), (b"settled", []), ("b", "spill"),
    {"spill": "b"}, {"settled": []}, frozenset(["spill", "b"]), range(2), object(), Sly(), Mute(), (Sly(), "b"),
    (Mute(), "b"), (Sly(), []), (Mute(), []), ("spill", Sly()), ("spill", Mute()), ("unspill", Sly()),
    ("unspill", Mute()), ("unspill", [Sly()]), ("settled", Sly()), ("settled", Mute()), ("settled", [Mute()]),
    deep_list(), ("settled", deep_list()), ("unspill", [deep_list()]), (deep_list(), []), Net({}), tuple, "ab",
]
"""Things that are no papers of any stand."""

NO_POURS = [
    None, True, False, 0, 1, "", "p", b"p", {}, {"p": ("a", 1)}, {("p", "a", 1)}, range(0), object(), Sly(), Mute(), list,
    deep_list(), ("p", "a", 1), ["p", "a", 1], [None], [True], [0], [""], ["pa1"], [()], [("p",)], [("p", "a")],
    [("p", "a", 1, 1)], [["p", "a", 1]], [{"p": 1, "a": 1, "x": 1}], [("p", "a", 1), None], [("p", "a", 1), ["q", "a", 1]],
    [("p", "a", 1), ("q", "a")], [("p", "a", 1), [("q", "a", 1)]], ([],), ((("p", "a", 1),),), [Sly()], [Mute()],
    [("p", "a", 1), Sly()], [("p", "a", 1), Mute()], [deep_list()], [{"p", "a", 1}],
]
"""Things that are no lists of tuples of three things."""

NO_PICKS = [
    None, True, False, 0, 1, GREAT, "", "0", b"", b"0", {}, {0: 0}, {0}, set(), frozenset([0]), range(0), range(2),
    object(), Sly(), Mute(), list, deep_list(), [None], [True], [False], ["0"], [""], [[0]], [(0,)], [{}], [-1], [-GREAT],
    [0, None], [0, True], [0, -1], (0, "1"), (0, [1]), [b"0"], [Sly()], [Mute()], [0, Sly()], [0, Mute()], [deep_list()],
]
"""Things that are no lists of whole numbers from 0 on."""

NO_TEXTS = [
    None, True, False, 0, 1, GREAT, b"", b"pond a 4 0", [], ["pond a 4 0"], (), ("",), {}, {"a": 1}, {""}, frozenset(),
    range(0), object(), Sly(), Mute(), str, deep_list(), Net({}), [""], bytearray(b""), len,
]
"""Things that are no texts."""

NO_DEEDS = [
    None, True, False, 0, 1, GREAT, "", "rest", b"rest", [], ["rest"], ["back", "p"], (), {}, {"rest"}, {"rest": 1}, range(1),
    frozenset(["rest"]), object(), Sly(), Mute(), tuple, deep_list(), (None,), (True,), (0,), ("",), ("Rest",), ("rest ",),
    (("rest",),), (["rest"],), ({},), (b"rest",), (Sly(),), (Mute(),), (deep_list(),), ("rest", None), ("rest", "a"),
    ("settle", 1), ("become",), ("become", Net({}), []), ("copied",), ("play",), ("line",), ("pour",), ("pour", "p", "a"),
    ("pour", "p", "a", 1, 1), ("back",), ("back", "p", "p"), ("dig", "z"), ("dig", "z", 4, 4), ("fill",), ("fill", "a", "a"),
    ("brim", "a"), ("brim", "a", 4, 4), ("pipe", "a", "b"), ("pipe", "a", "b", 1, 1), ("cut", "a"), ("cut", "a", "b", 1),
    ("spill", "a"), ("spill", "a", 1, 1), ("unspill", ["a"]), ("unspill", "a", "b", 1), ("p", "back"), (Sly(), "p"),
    (Mute(), "p"), (None, "p"), (["back"], "p"), ({"back": 1}, "p"), (deep_list(), "p"),
]
"""Things that are no deeds."""

TWELVE = "abcdefghijkl"
THIRTEEN = "abcdefghijklm"


class ThingsTestCase(unittest.TestCase):
    """Says of a refusal which class it has to have, and which fields."""

    def refused(self, error, call, *args, **fields_and_names):
        """Call with args, and with named= for names; the rest are the fields of the error."""
        named = fields_and_names.pop("named", {})
        with self.assertRaises(error) as caught:
            call(*args, **named)
        self.assertEqual(caught.exception.__class__.__name__, error.__name__)
        for field, value in fields_and_names.items():
            told = getattr(caught.exception, field)
            if told is value:
                continue
            # Sly things are alike to everything, so what is told has to be of the very same kind.
            self.assertEqual(told.__class__.__name__, value.__class__.__name__)
            self.assertEqual(told, value)
        return caught.exception

    def told_true(self, told):
        self.assertIs(told, True)

    def told_false(self, told):
        self.assertIs(told, False)
