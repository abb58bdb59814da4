"""Points 2, 3, 8, 13 and the interface's shares."""

import itertools
import math
import time
import unittest
from fractions import Fraction

from backwater.errors import BadPoured
from backwater.nets import Net
from backwater.rests import settled
from backwater.shares import shares
from backwater.stands import Stand
from tests.plain import large_stands, ring, small_stands, waters_of
from tests.things import GREAT, NO_COUNTS, NO_DICTS, NO_NAMES, TWELVE, ThingsTestCase

BRIMS = {"c": 5, "a": 9, "b": 4}
PIPES = {("b", "a"): 3, ("c", "a"): 2, ("a", "c"): 4, ("c", "b"): 1}
NET = Net(BRIMS, PIPES)
POURED = {"b": 7, "a": 100}
PAIR = Net({"a": 4, "b": 6}, {("a", "b"): 4, ("b", "a"): 2})
SECONDS = 3


def solved(rows, right):
    """The one solution of as many equations as unknowns, by plain elimination in fractions."""
    rows = [[Fraction(entry) for entry in row] + [Fraction(end)] for row, end in zip(rows, right)]
    for at in range(len(rows)):
        swap = next(k for k in range(at, len(rows)) if rows[k][at] != 0)
        rows[at], rows[swap] = rows[swap], rows[at]
        rows[at] = [entry / rows[at][at] for entry in rows[at]]
        for k in range(len(rows)):
            if k != at:
                rows[k] = [entry - rows[k][at] * part for entry, part in zip(rows[k], rows[at])]
    return [row[-1] for row in rows]


def with_brims_less_one(net, poured, chosen):
    """Counts in fractions, nought but for the chosen ponds, at which these have just their brims less one."""
    rows = [[net.brim(name) if one == name else -net.width(one, name) for one in chosen] for name in chosen]
    right = [poured.get(name, 0) - net.brim(name) + 1 for name in chosen]
    return {**dict.fromkeys(net.ponds(), Fraction(0)), **dict(zip(chosen, solved(rows, right)))}


def do(net, poured, counts):
    """Whether each is from nought on and each pond's water is at most its brim less one."""
    waters = waters_of(net, poured, counts)
    return all(counts[name] >= 0 and waters[name] <= net.brim(name) - 1 for name in waters)


class SharesTestCase(ThingsTestCase):
    def check_fractions(self, told):
        """Tuples of whole numbers, bottom above 0, without a common divisor; as a dict of fractions."""
        self.assertIs(told.__class__, dict)
        for share in told.values():
            self.assertIs(share.__class__, tuple)
            self.assertEqual([part.__class__ for part in share], [int, int])
            self.assertGreater(share[1], 0)
            self.assertEqual(math.gcd(*share), 1)
        return {name: Fraction(*share) for name, share in told.items()}

    def check(self, net, poured, told):
        """They do, and where one is above nought the water is just the brim less one."""
        self.assertEqual(sorted(told), net.ponds())
        found = self.check_fractions(told)
        self.assertTrue(do(net, poured, found))
        waters = waters_of(net, poured, found)
        for name, share in found.items():
            self.assertTrue(share == 0 or waters[name] == net.brim(name) - 1)
        return found


class AskedTest(SharesTestCase):
    def test_one_pond_nought_whole_and_true_fractions(self):
        net = Net({"a": 4})
        told = {0: (0, 1), 2: (0, 1), 3: (0, 1), 4: (1, 4), 5: (1, 2), 6: (3, 4), 7: (1, 1), 8: (5, 4), 11: (2, 1),
                GREAT: (GREAT // 4, 1), GREAT - 1: ((GREAT - 4), 4)}
        for poured, share in told.items():
            with self.subTest(poured=poured):
                self.assertEqual(shares(net, {"a": poured}), {"a": share})

    def test_a_brim_of_one(self):
        self.assertEqual(shares(Net({"a": 1}), {"a": 7}), {"a": (7, 1)})
        self.assertEqual(shares(Net({"a": 1}), None), {"a": (0, 1)})

    def test_along_a_pipe(self):
        net = Net({"a": 4, "b": 3}, {("a", "b"): 3})
        # a: (9 - 3) / 4; b: (2 + 3 * 6/4 - 2) / 3
        self.assertEqual(shares(net, {"a": 9, "b": 2}), {"a": (3, 2), "b": (3, 2)})
        # What b has yet to take ahead of its brim less one is not sent on.
        self.assertEqual(shares(net, {"a": 4, "b": 0}), {"a": (1, 4), "b": (0, 1)})
        self.assertEqual(shares(net, {"a": 4, "b": 2}), {"a": (1, 4), "b": (1, 4)})

    def test_in_both_directions(self):
        # 4a - 2b = 10 - 3 and 6b - 4a = 2 - 5
        self.assertEqual(shares(PAIR, {"a": 10, "b": 2}), {"a": (9, 4), "b": (1, 1)})
        self.assertEqual(shares(poured={"a": 10, "b": 2}, net=PAIR), {"a": (9, 4), "b": (1, 1)})

    def test_shares_may_lie_below_the_settled_counts(self):
        self.assertEqual(settled(Stand(PAIR, {"a": 10, "b": 2})).counts(), {"a": 3, "b": 2})

    def test_nothing_poured(self):
        for nothing in (None, {}, {"a": 0}, {"b": 3, "a": 8, "c": 4}):
            self.assertEqual(shares(NET, nothing), dict.fromkeys("abc", (0, 1)))

    def test_no_ponds(self):
        self.assertEqual((shares(Net({}), None), shares(Net({}), {})), ({}, {}))

    def test_poured_is_wanted(self):
        with self.assertRaises(TypeError):
            shares(NET)


class RefusedTest(ThingsTestCase):
    def test_no_dicts(self):
        for at, thing in enumerate(NO_DICTS):
            with self.subTest(at=at):
                self.refused(BadPoured, shares, NET, thing, name=None)

    def test_wrong_keys(self):
        for at, thing in enumerate(["x", "aa", *NO_NAMES]):
            with self.subTest(at=at):
                self.refused(BadPoured, shares, NET, {"c": 1, thing: 1, "b": -1}, name=thing)

    def test_wrong_numbers(self):
        for at, thing in enumerate(NO_COUNTS):
            with self.subTest(at=at):
                self.refused(BadPoured, shares, NET, {"c": 1, "b": thing, "x": 1}, name="b")

    def test_of_no_ponds(self):
        self.refused(BadPoured, shares, Net({}), {"a": 0}, name="a")


class OwnTest(ThingsTestCase):
    def test_what_is_handed_in_stays_and_has_no_later_bearing(self):
        poured = dict(POURED)
        kept = shares(NET, poured)
        self.refused(BadPoured, shares, NET, {"a": -1}, name="a")
        self.assertEqual(list(poured.items()), list(POURED.items()))
        self.told_true(NET == Net(BRIMS, PIPES))
        poured.clear()
        self.assertEqual(shares(NET, POURED), kept)

    def test_what_came_back_has_no_later_bearing(self):
        kept = dict(shares(NET, POURED))
        shares(NET, POURED).clear()
        shares(NET, POURED)["a"] = (0, 1)
        self.assertEqual(shares(NET, POURED), kept)


class PlainTest(SharesTestCase):
    def test_the_least_ones_of_all_that_do(self):
        seen = set()
        for stand in small_stands(14, 250):
            net, poured = stand.net(), stand.pours()
            found = self.check(net, poured, shares(net, poured))
            seen |= {(share > 0, share.denominator > 1) for share in found.values()}
            for size in range(len(net) + 1):
                for chosen in itertools.combinations(net.ponds(), size):
                    other = with_brims_less_one(net, poured, chosen)
                    if do(net, poured, other):
                        self.assertTrue(all(found[name] <= other[name] for name in found))
        self.assertEqual(seen, {(False, False), (True, False), (True, True)})

    def test_none_is_above_the_settled_count(self):
        for stand in [*small_stands(15, 250), *large_stands()]:
            told = shares(stand.net(), stand.pours())
            counts = settled(stand).counts()
            self.assertTrue(all(Fraction(*told[name]) <= counts[name] for name in counts))


class LargeTest(SharesTestCase):
    def test_twelve_ponds_with_forty_figures(self):
        for stand in large_stands():
            began = time.perf_counter()
            told = shares(stand.net(), stand.pours())
            self.assertLess(time.perf_counter() - began, SECONDS)
            self.check(stand.net(), stand.pours(), told)

    def test_a_long_ring_that_hardly_soaks(self):
        net = ring(60, 1)
        told = shares(net, dict.fromkeys(TWELVE, GREAT))
        # The last one alone soaks, by 1: its share is all that is above the brims less one.
        self.assertEqual(told["l"], (12 * (GREAT - 59), 1))
        self.assertEqual(told["a"], fraction(GREAT - 59 + 59 * told["l"][0], 60))


def fraction(top, bottom):
    reduced = Fraction(top, bottom)
    return reduced.numerator, reduced.denominator


if __name__ == "__main__":
    unittest.main()
