"""Points 2, 3, 9, 14, 15 and the interface's lots."""

import itertools
import time
import unittest

from backwater.errors import BadLot, BadTimes, CantUnspill, NotAtRest
from backwater.lots import can_unspill, greatest_lot, most_unspills, unspilled
from backwater.nets import Net
from backwater.rests import rested, settled
from backwater.spills import at_rest
from backwater.stands import Stand
from tests.plain import (
    can_be_unspilled, full_ponds, large_nets, large_stands, lots_of, ring, small_stands, union_of_lots, unneeded,
    unspilled_one_by_one,
)
from tests.things import GREAT, NO_KEYS, NO_LOTS, NO_NAMES, NO_TIMES, TWELVE, ThingsTestCase

BRIMS = {"b": 4, "a": 4, "c": 3}
PIPES = {("a", "b"): 4, ("b", "a"): 3, ("b", "c"): 1}
NET = Net(BRIMS, PIPES)
POURED = {"a": 1}
COUNTS = {"a": 5, "b": 5}
SECONDS = 3


def resting():
    """At rest, not settled; waters: a -4, b 0, c 5 - 3 * 1 = 2."""
    return Stand(NET, POURED, {**COUNTS, "c": 1})


def full():
    """Not at rest: b and c can spill."""
    return Stand(NET, {"b": 4, "c": 3})


class MostTest(ThingsTestCase):
    def test_a_lot_of_one_pond(self):
        net = Net({"a": 4})
        for poured, counts, most in ((0, 1, 1), (0, 5, 5), (1, 1, 1), (3, 1, 1), (4, 1, 0), (7, 1, 0), (4, 2, 1),
                                     (3, 0, 0), (0, 0, 0), (GREAT, GREAT, GREAT - GREAT // 4)):
            stand = Stand(net, {"a": poured}, {"a": counts})
            for lot in (["a"], ("a",)):
                self.assertEqual(most_unspills(stand, lot), most)
                self.assertIs(can_unspill(stand, lot), most >= 1)
            self.assertEqual(greatest_lot(stand), ["a"] if most else [])

    def test_a_lot_of_all_ponds(self):
        self.assertEqual(most_unspills(resting(), ["a", "b", "c"]), 0)
        self.assertEqual(most_unspills(Stand(NET, POURED, {**COUNTS, "c": 2}), ["c", "a", "b"]), 1)

    def test_a_lot_may_go_where_none_of_its_ponds_alone_does(self):
        net = ring(3, 1, "ab")
        stand = Stand(net, {"b": 1}, {"a": 2, "b": 2})
        # a has 0 - 6 + 4, b 1 - 6 + 6.
        self.assertEqual(stand.waters(), {"a": -2, "b": 1})
        self.assertEqual(most_unspills(stand, ["a"]), 1)
        self.assertEqual(most_unspills(stand, ["b"]), 0)
        self.assertEqual(most_unspills(stand, ["a", "b"]), 2)

    def test_bounded_by_the_least_count(self):
        net = Net({"a": 4, "b": 4})
        for counts, most in (((5, 3), 3), ((3, 5), 3), ((1, GREAT), 1), ((0, 5), 0), ((5, 0), 0), ((0, 0), 0)):
            self.assertEqual(most_unspills(Stand(net, None, dict(zip("ab", counts))), ["a", "b"]), most)
        self.assertEqual(most_unspills(Stand(ring(9, 1, "ab"), None, {"a": 4, "b": 4}), ["a", "b"]), 4)

    def test_bounded_by_the_water_that_comes_back(self):
        # Once both are unspilled a has 9 - 8 more, b no more.
        net = ring(9, 1, "ab")
        for water, most in ((8, 0), (7, 1), (6, 2), (0, 8), (-1, 9), (-91, 99)):
            stand = Stand(net, {"a": water + 100, "b": 5}, {"a": 100, "b": 100})
            self.assertEqual(stand.waters(), {"a": water, "b": 5})
            self.assertEqual(most_unspills(stand, ["a", "b"]), most)

    def test_can_unspill_so_many_times(self):
        net = ring(9, 1, "ab")
        stand = Stand(net, {"a": 97}, {"a": 100, "b": 100})
        self.assertEqual(most_unspills(stand, ["b", "a"]), 11)
        for times, told in ((1, True), (10, True), (11, True), (12, False), (13, False), (GREAT, False)):
            self.assertIs(can_unspill(stand, ["b", "a"], times), told)
            self.assertIs(can_unspill(times=times, lot=("a", "b"), stand=stand), told)

    def test_unspilled(self):
        net = ring(9, 1, "ab")
        stand = Stand(net, {"a": 97}, {"a": 100, "b": 100})
        self.assertIs(unspilled(stand, ["a", "b"]).__class__, Stand)
        self.told_true(unspilled(stand, ["a", "b"]) == Stand(net, {"a": 97}, {"a": 99, "b": 99}))
        self.told_true(unspilled(stand, ("b", "a"), 11) == Stand(net, {"a": 97}, {"a": 89, "b": 89}))
        self.told_true(unspilled(times=1, lot=["a"], stand=stand) == Stand(net, {"a": 97}, {"a": 99, "b": 100}))

    def test_most_by_name(self):
        self.assertEqual(most_unspills(lot=["a", "b"], stand=Stand(ring(9, 1, "ab"), None, {"a": 1, "b": 1})), 1)

    def test_numbers_of_forty_figures(self):
        net = ring(60, 1)
        stand = Stand(net, {"a": GREAT}, dict.fromkeys(TWELVE, 2 * GREAT))
        # a has GREAT - 2 * GREAT, and one more each time.
        lot = list(TWELVE)
        self.assertEqual(most_unspills(stand, lot), GREAT + 59)
        self.told_true(can_unspill(stand, lot, GREAT + 59))
        self.told_false(can_unspill(stand, lot, GREAT + 60))
        self.assertEqual(unspilled(stand, lot, GREAT + 59).waters(), {**dict.fromkeys(TWELVE, 0), "a": 59})
        self.refused(CantUnspill, unspilled, stand, lot, GREAT + 60, most=GREAT + 59)


class GreatestTest(ThingsTestCase):
    def setUp(self):
        # Two rings on their own, a pond on its own that owes, and one that never spilled.
        pipes = {("a", "b"): 4, ("b", "a"): 3, ("c", "d"): 4, ("d", "c"): 3}
        self.net = Net({name: 4 for name in "fedcba"}, pipes)
        self.stand = Stand(self.net, {"a": 1, "e": 1}, {"d": 2, "c": 2, "b": 2, "a": 2, "e": 1})

    def test_all_ponds_of_all_lots(self):
        self.assertEqual(greatest_lot(self.stand), ["a", "b", "c", "d", "e"])
        self.assertIs(greatest_lot(self.stand).__class__, list)

    def test_it_can_be_unspilled_itself(self):
        self.told_true(can_unspill(self.stand, greatest_lot(self.stand)))

    def test_without_some_ponds(self):
        for without, told in ((["e"], "abcd"), (["b"], "acde"), (["c", "a"], "e"), (["c"], "abe"), (["f"], "abcde"),
                              (list("abe"), "cd"), (["b", "b"], "acde"), ([], "abcde"), (list("abcdef"), "")):
            with self.subTest(without=without):
                self.assertEqual(greatest_lot(self.stand, without=without), list(told))
                self.assertEqual(greatest_lot(self.stand, without=tuple(without)), list(told))

    def test_by_name(self):
        self.assertEqual(greatest_lot(without=["a"], stand=self.stand), ["c", "d", "e"])
        with self.assertRaises(TypeError):
            greatest_lot(self.stand, ["a"])

    def test_what_is_no_pond_has_no_bearing(self):
        wrong = ["x", "aa", *NO_NAMES, *NO_KEYS]
        self.assertEqual(greatest_lot(self.stand, without=wrong), list("abcde"))
        self.assertEqual(greatest_lot(self.stand, without=[*wrong, "a"]), list("cde"))
        for at, thing in enumerate(wrong):
            with self.subTest(at=at):
                self.assertEqual(greatest_lot(self.stand, without=(thing,)), list("abcde"))
                self.assertEqual(greatest_lot(self.stand, without=["e", thing, "a"]), list("cd"))

    def test_none_where_it_is_settled(self):
        self.assertEqual(greatest_lot(Stand(self.net)), [])
        self.assertEqual(greatest_lot(Stand(self.net, {"a": 3, "e": 3})), [])
        self.assertEqual(greatest_lot(settled(self.stand)), [])
        self.assertEqual(greatest_lot(settled(Stand(NET, {"a": 50, "c": 7}))), [])

    def test_where_water_is_just_what_would_be_missed(self):
        net = ring(9, 1, "ab")
        for water, told in ((7, ["a", "b"]), (8, [])):
            self.assertEqual(greatest_lot(Stand(net, {"a": water + 5, "b": 5}, {"a": 5, "b": 5})), told)

    def test_ponds_are_left_out_one_after_the_other(self):
        # Without c at hand b would be full again, and without b a would.
        net = Net(dict.fromkeys("abcd", 4), {("b", "a"): 4, ("c", "b"): 4, ("d", "c"): 4})
        counts = dict.fromkeys("abcd", 1)
        self.assertEqual(greatest_lot(Stand(net, {"d": 4}, counts)), [])
        self.assertEqual(greatest_lot(Stand(net, {"d": 3}, counts)), list("abcd"))
        self.assertEqual(greatest_lot(Stand(net, {"d": 3}, counts), without=["d"]), [])
        self.assertEqual(greatest_lot(Stand(net, {"d": 7}, {**counts, "a": 2, "b": 2})), ["a", "b"])

    def test_no_ponds(self):
        self.assertEqual(greatest_lot(Stand(Net({}))), [])
        self.assertEqual(greatest_lot(Stand(Net({})), without=["a", None]), [])

    def test_not_at_rest(self):
        for without in ((), ["a"], [None], ["b"], ["b", "c"]):
            self.refused(NotAtRest, greatest_lot, full(), named={"without": without}, name="b")


class RefusedTest(ThingsTestCase):
    def test_not_at_rest_tells_the_first_pond_sorted(self):
        for ask in (most_unspills, can_unspill, unspilled):
            self.refused(NotAtRest, ask, full(), ["a"], name="b")
            self.refused(NotAtRest, ask, Stand(NET, {"c": 3}), ["a"], name="c")
            self.refused(NotAtRest, ask, Stand(NET, {"a": 4}, {"a": 1}), ["a"], name="b")

    def test_a_net_of_no_ponds_has_no_lot(self):
        for ask in (most_unspills, can_unspill, unspilled):
            for lot in ([], (), ["a"], None):
                self.refused(BadLot, ask, Stand(Net({})), lot)

    def test_no_lot_of_anything(self):
        for ask in (most_unspills, can_unspill, unspilled):
            for at, thing in enumerate(NO_LOTS):
                with self.subTest(ask=ask.__name__, at=at):
                    self.refused(BadLot, ask, resting(), thing)
                    self.refused(BadLot, ask, named={"stand": resting(), "lot": thing})

    def test_no_names_within_a_lot(self):
        for at, thing in enumerate(NO_NAMES + NO_KEYS):
            with self.subTest(at=at):
                self.refused(BadLot, most_unspills, resting(), ["a", thing])
                self.refused(BadLot, most_unspills, resting(), (thing,))

    def test_no_times_of_anything(self):
        for ask in (can_unspill, unspilled):
            for at, thing in enumerate(NO_TIMES):
                with self.subTest(ask=ask.__name__, at=at):
                    self.refused(BadTimes, ask, resting(), ["a"], thing)
                    self.refused(BadTimes, ask, resting(), named={"lot": ("a", "b"), "times": thing})

    def test_more_times_than_most(self):
        stand = Stand(ring(9, 1, "ab"), {"a": 97}, {"a": 100, "b": 100})
        for times in (12, 13, GREAT):
            self.refused(CantUnspill, unspilled, stand, ["a", "b"], times, most=11)
        self.refused(CantUnspill, unspilled, Stand(NET), ["a"], most=0)
        self.refused(CantUnspill, unspilled, resting(), ["a", "b", "c"], most=0)

    def test_numbers_of_any_size_can_be_told_in_a_refusal(self):
        # Python itself does not show numbers of more than 4300 figures.
        huge = 10 ** 5000
        self.refused(CantUnspill, unspilled, Stand(Net({"a": 4}), None, {"a": huge}), ["a"], huge + 1, most=huge)

    def test_what_is_told_first_is_raised_first(self):
        # Each call is wrong in all that comes behind its own refusal, too.
        for ask in (can_unspill, unspilled):
            for lot in ([], None, ["x"], ["a", "a"], True, {"a": 1}):
                for times in (0, None, True, -GREAT, "1", [1], GREAT):
                    self.refused(NotAtRest, ask, full(), lot, times, name="b")
                    self.refused(BadLot, ask, resting(), lot, times)
            for times in (0, None, True, False, -GREAT, "1", [1], {}):
                self.refused(NotAtRest, ask, full(), ["a"], times, name="b")
                self.refused(BadTimes, ask, Stand(NET), ["a"], times)
        for lot in ([], None, ["x"], True):
            self.refused(NotAtRest, most_unspills, full(), lot, name="b")


class OwnTest(ThingsTestCase):
    def test_what_is_handed_in_stays_as_it_was(self):
        stand, lot, without = resting(), ["b", "a"], ["c", None, "c"]
        for ask in (most_unspills, can_unspill, unspilled):
            ask(stand, lot)
        self.refused(CantUnspill, unspilled, stand, lot, GREAT)
        self.refused(BadTimes, unspilled, stand, lot, 0)
        self.refused(BadLot, unspilled, stand, ["a", "x"])
        greatest_lot(stand, without=without)
        self.assertEqual((lot, without), (["b", "a"], ["c", None, "c"]))
        self.told_true(stand == Stand(Net(BRIMS, PIPES), POURED, {**COUNTS, "c": 1}))

    def test_later_changes_of_a_lot_have_no_bearing(self):
        stand, lot = resting(), ["b", "a"]
        told = unspilled(stand, lot)
        lot.append("c")
        self.told_true(told == Stand(NET, POURED, {"a": 4, "b": 4, "c": 1}))
        self.told_true(unspilled(stand, ["a", "b"]) == told)

    def test_what_came_back_has_no_later_bearing(self):
        stand = resting()
        kept = list(greatest_lot(stand))
        self.assertEqual(kept, ["a", "b"])
        greatest_lot(stand).clear()
        greatest_lot(stand).append("c")
        self.assertEqual(greatest_lot(stand), kept)
        empty = greatest_lot(Stand(NET))
        empty.append("a")
        self.assertEqual(greatest_lot(Stand(NET)), [])
        unspilled(stand, ["a"]).counts().clear()
        self.told_true(unspilled(stand, ["a"]) == Stand(NET, POURED, {"a": 4, "b": 5, "c": 1}))

    def test_what_came_back_may_be_handed_in_again(self):
        stand = resting()
        self.told_true(unspilled(stand, greatest_lot(stand)) == unspilled(stand, ("b", "a")))


class PlainTest(ThingsTestCase):
    def test_most_and_can_against_unspilling_one_by_one(self):
        seen = set()
        for stand in map(rested, small_stands(16, 150)):
            for lot in lots_of(stand.net().ponds()):
                most = unspilled_one_by_one(stand.net(), stand.pours(), stand.counts(), lot)
                self.assertEqual(most_unspills(stand, lot), most)
                self.assertEqual(most_unspills(stand, tuple(reversed(lot))), most)
                for times in (1, most, most + 1):
                    if times > 0:
                        self.assertIs(can_unspill(stand, lot, times), times <= most)
                self.check_unspilled(stand, lot, most)
                seen.add(min(most, 3))
        self.assertEqual(seen, {0, 1, 2, 3})

    def check_unspilled(self, stand, lot, most):
        """Unspilled, it is at rest, and has the counts told."""
        self.refused(CantUnspill, unspilled, stand, lot, most + 1, most=most)
        for times in {1, most} if most else ():
            counts = {name: count - times * (name in lot) for name, count in stand.counts().items()}
            told = unspilled(stand, lot, times)
            self.told_true(told == Stand(stand.net(), stand.pours(), counts))
            self.assertEqual(full_ponds(told.net(), told.pours(), told.counts()), [])

    def test_greatest_lot_against_all_lots(self):
        several = none = 0
        for stand in map(rested, small_stands(17, 200)):
            net, poured, counts = stand.net(), stand.pours(), stand.counts()
            for size in range(len(net) + 1):
                for without in itertools.combinations(net.ponds(), size):
                    told = greatest_lot(stand, without=without)
                    self.assertEqual(told, union_of_lots(net, poured, counts, without))
                    self.assertTrue(not told or can_be_unspilled(net, poured, counts, told))
            several += len(greatest_lot(stand)) > 1
            none += not greatest_lot(stand)
        self.assertGreater(min(several, none), 20)

    def test_there_is_one_just_where_it_is_not_settled(self):
        for stand in map(rested, [*small_stands(18, 300), *large_stands()]):
            self.assertIs(greatest_lot(stand) == [], stand == settled(stand))

    def test_greatest_lots_lead_down_to_where_it_is_settled(self):
        for stand in map(rested, small_stands(19, 150)):
            ahead = stand
            while greatest_lot(ahead):
                ahead = unspilled(ahead, greatest_lot(ahead), most_unspills(ahead, greatest_lot(ahead)))
            self.told_true(ahead == settled(stand))


class LargeTest(ThingsTestCase):
    def timed(self, ask, *given, **named):
        began = time.perf_counter()
        told = ask(*given, **named)
        self.assertLess(time.perf_counter() - began, SECONDS)
        return told

    def resting_stands(self):
        """Stands at rest with numbers of forty figures, most of them far above settled ones."""
        yield from map(rested, large_stands())
        for net in large_nets():
            yield rested(Stand(net, {"a": 5}, dict.fromkeys(TWELVE, GREAT)))

    def test_greatest_lot(self):
        great = 0
        for stand in self.resting_stands():
            net, poured, counts = stand.net(), stand.pours(), stand.counts()
            lot = self.timed(greatest_lot, stand)
            self.assertEqual(lot, unneeded(net, poured, counts, {}))
            without = self.timed(greatest_lot, stand, without=["a", "g"])
            self.assertEqual(without, unneeded(net, poured, counts, {"a": counts["a"], "g": counts["g"]}))
            great += len(lot) == 12
        self.assertGreater(great, 5)

    def test_most_times(self):
        for stand in self.resting_stands():
            for lot in (list(TWELVE), greatest_lot(stand) or ["l"], ["f", "a"]):
                self.check_most(stand, lot)

    def check_most(self, stand, lot):
        """The lot can be unspilled most times, and not once more."""
        net, poured, counts = stand.net(), stand.pours(), stand.counts()
        most = self.timed(most_unspills, stand, lot)
        self.assertGreaterEqual(most, 0)
        told = self.timed(unspilled, stand, lot, most) if most else stand
        self.assertEqual(told.counts(), {name: counts[name] - most * (name in lot) for name in counts})
        self.told_true(at_rest(told))
        self.assertFalse(can_be_unspilled(net, poured, told.counts(), lot))
        self.told_false(self.timed(can_unspill, stand, lot, most + 1))
        self.refused(CantUnspill, unspilled, stand, lot, most + 1, most=most)


if __name__ == "__main__":
    unittest.main()
