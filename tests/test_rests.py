"""Points 2, 3, 4, 8, 11, 12 and the interface's rests."""

import time
import unittest

from backwater.errors import BadCount, BadPoured
from backwater.nets import Net
from backwater.rests import dry, is_quiet, rested, settled
from backwater.spills import at_rest, soaked, spilled, spilling
from backwater.stands import Stand
from tests.plain import (
    boxes, full_ponds, large_nets, large_stands, no_more, rested_one_by_one, ring, schedules, small_stands, unneeded,
    waters_of,
)
from tests.things import GREAT, NO_COUNTS, NO_DICTS, NO_NAMES, TWELVE, ThingsTestCase

BRIMS = {"c": 5, "a": 9, "b": 4}
PIPES = {("b", "a"): 3, ("c", "a"): 2, ("a", "c"): 4, ("c", "b"): 1}
NET = Net(BRIMS, PIPES)
POURED = {"b": 7, "a": 100}
COUNTS = {"c": 3, "a": 6}
SECONDS = 3


class AskedTest(ThingsTestCase):
    def test_rested(self):
        net = Net({"a": 4, "b": 3}, {("a", "b"): 3})
        told = rested(Stand(net, {"a": 9, "b": 2}))
        self.assertIs(told.__class__, Stand)
        self.told_true(told == Stand(net, {"a": 9, "b": 2}, {"a": 2, "b": 2}))
        self.told_true(rested(stand=Stand(net, {"a": 9, "b": 2}, {"a": 1})) == told)

    def test_one_pond_at_the_edges_of_the_brim(self):
        net = Net({"a": 4})
        for water, count in ((0, 0), (3, 0), (4, 1), (7, 1), (8, 2), (GREAT, GREAT // 4)):
            self.told_true(rested(Stand(net, {"a": water})) == Stand(net, {"a": water}, {"a": count}))
            self.told_true(settled(Stand(net, {"a": water}, {"a": 9})) == Stand(net, {"a": water}, {"a": count}))

    def test_what_rests_stays(self):
        for stand in (Stand(NET), Stand(NET, {"a": 8, "b": 3, "c": 4}), Stand(NET, {"b": 1}, {"a": 1})):
            self.told_true(rested(stand) == stand)

    def test_what_owes_stays_owing_and_is_filled_first(self):
        net = Net({"a": 4, "b": 3}, {("a", "b"): 3})
        self.told_true(rested(Stand(net, {"a": 9}, {"b": 2})) == Stand(net, {"a": 9}, {"a": 2, "b": 2}))
        self.told_true(rested(Stand(net, {"a": 9}, {"b": 1})) == Stand(net, {"a": 9}, {"a": 2, "b": 2}))
        self.assertEqual(rested(Stand(net, {"a": 9}, {"b": 3})).waters(), {"a": 1, "b": -3})
        self.told_true(rested(Stand(net, None, {"b": 3})) == Stand(net, None, {"b": 3}))

    def test_rested_need_not_be_settled(self):
        net = Net({"a": 4, "b": 4}, {("a", "b"): 4, ("b", "a"): 3})
        stand = Stand(net, {"a": 1}, {"a": 5, "b": 5})
        self.told_true(at_rest(stand))
        self.told_true(rested(stand) == stand)
        self.told_true(settled(stand) == Stand(net, {"a": 1}))

    def test_dry(self):
        told = dry(Stand(NET, POURED, COUNTS))
        self.assertIs(told.__class__, Stand)
        self.told_true(told == Stand(NET, POURED))
        self.told_true(dry(stand=told) == told)

    def test_settled(self):
        net = Net({"a": 4, "b": 3}, {("a", "b"): 3})
        for counts in ({}, {"a": 2, "b": 2}, {"a": 50}, {"b": 7}, {"a": GREAT, "b": GREAT}):
            told = settled(stand=Stand(net, {"a": 9, "b": 2}, counts))
            self.assertIs(told.__class__, Stand)
            self.told_true(told == Stand(net, {"a": 9, "b": 2}, {"a": 2, "b": 2}))

    def test_a_ring_that_hardly_soaks(self):
        net = ring(2, 1, "ab")
        told = settled(Stand(net, {"a": 10}))
        self.assertEqual(told.counts(), rested_one_by_one(net, {"a": 10}, {}, max))
        self.assertEqual(soaked(told), told.count("b"))

    def test_no_ponds(self):
        empty = Stand(Net({}))
        for ask in (rested, dry, settled):
            self.told_true(ask(empty) == empty)
        for nothing in ({}, None):
            self.told_true(is_quiet(Net({}), nothing, nothing))


class QuietTest(ThingsTestCase):
    def test_quiet_at_the_edges_of_the_brim(self):
        net = Net({"a": 4})
        for poured, count, told in ((3, 0, True), (4, 0, False), (4, 1, True), (7, 1, True), (8, 1, False),
                                    (0, 9, True), (GREAT, GREAT // 4, True), (GREAT, GREAT // 4 - 1, False)):
            self.assertIs(is_quiet(net, {"a": poured}, {"a": count}), told)

    def test_ponds_left_out_none_and_names(self):
        self.told_true(is_quiet(NET, None, None))
        self.told_true(is_quiet(NET, {"c": 4}, None))
        self.told_false(is_quiet(NET, {"c": 5}, None))
        self.told_true(is_quiet(counts={"c": 1}, poured={"c": 5}, net=NET))
        self.told_false(is_quiet(NET, None, {"b": 3}))

    def test_no_dicts(self):
        for at, thing in enumerate(NO_DICTS):
            with self.subTest(at=at):
                self.refused(BadPoured, is_quiet, NET, thing, None, name=None)
                self.refused(BadPoured, is_quiet, NET, thing, thing, name=None)
                self.refused(BadCount, is_quiet, NET, POURED, thing, name=None)

    def test_wrong_keys(self):
        for at, thing in enumerate(["x", *NO_NAMES]):
            with self.subTest(at=at):
                self.refused(BadPoured, is_quiet, NET, {"b": 1, thing: 1}, {"x": 1}, name=thing)
                self.refused(BadCount, is_quiet, NET, {"b": 1}, {"b": 1, thing: 1, "a": -1}, name=thing)

    def test_wrong_numbers(self):
        for at, thing in enumerate(NO_COUNTS):
            with self.subTest(at=at):
                self.refused(BadPoured, is_quiet, NET, {"b": 1, "c": thing, "x": 1}, [], name="c")
                self.refused(BadCount, is_quiet, NET, {"b": 1}, {"b": 1, "c": thing, "x": 1}, name="c")

    def test_all_are_wanted(self):
        for given in ((NET,), (NET, {})):
            with self.assertRaises(TypeError):
                is_quiet(*given)


class OwnTest(ThingsTestCase):
    def test_what_is_handed_in_stays_as_it_was(self):
        stand = Stand(NET, POURED, COUNTS)
        poured, counts = dict(POURED), dict(COUNTS)
        for ask in (rested, dry, settled):
            ask(stand)
        is_quiet(NET, poured, counts)
        self.refused(BadCount, is_quiet, NET, poured, {**counts, "x": 1})
        self.told_true(stand == Stand(Net(BRIMS, PIPES), POURED, COUNTS))
        self.assertEqual((list(poured.items()), list(counts.items())), (list(POURED.items()), list(COUNTS.items())))

    def test_what_came_back_has_no_later_bearing(self):
        stand = Stand(NET, POURED, COUNTS)
        for ask in (rested, dry, settled):
            told, kept = ask(stand), ask(stand)
            told.counts().clear()
            told.pours()["a"] = 0
            told.waters().clear()
            told.net().pipes().clear()
            self.told_true(told == kept)
            self.told_true(ask(stand) == kept)

    def test_later_changes_of_what_was_handed_in_have_no_bearing(self):
        poured, counts = dict(POURED), dict(COUNTS)
        stand = Stand(NET, poured, counts)
        kept = rested(stand)
        poured.clear()
        counts["a"] = GREAT
        self.told_true(rested(stand) == kept)

    def test_what_came_back_may_be_handed_in_again(self):
        for ask in (rested, settled):
            told = ask(Stand(NET, POURED, COUNTS))
            self.told_true(ask(told) == told)
            self.told_true(is_quiet(told.net(), told.pours(), told.counts()))


class PlainTest(ThingsTestCase):
    def test_whatever_schedule_there_is_one_rest(self):
        moved = owing = unsettled = 0
        for stand in small_stands(11, 250):
            net, poured, counts = stand.net(), stand.pours(), stand.counts()
            told = rested(stand)
            self.told_true(told.net() == net)
            self.assertEqual(told.pours(), poured)
            for choose in schedules(3):
                self.assertEqual(told.counts(), rested_one_by_one(net, poured, counts, choose))
                self.assertEqual(settled(stand).counts(), rested_one_by_one(net, poured, {}, choose))
            moved += told != stand
            owing += told != stand and min(stand.waters().values()) < 0
            unsettled += told != settled(stand)
        self.assertGreater(min(moved, owing, unsettled), 20)

    def test_spilling_by_the_programs_own_spills_leads_there(self):
        for stand in small_stands(12, 60):
            for choose in schedules(4):
                ahead = stand
                while spilling(ahead):
                    ahead = spilled(ahead, choose(spilling(ahead)))
                self.told_true(ahead == rested(stand))

    def test_least_of_all_small_quiet_counts(self):
        for stand in small_stands(13, 60):
            for low, told in ((stand.counts(), rested(stand)), (dict.fromkeys(stand.counts(), 0), settled(stand))):
                self.check_least(told, low)

    def check_least(self, told, low):
        net, poured, least = told.net(), told.pours(), told.counts()
        self.assertEqual(full_ponds(net, poured, least), [])
        self.assertTrue(no_more(low, least))
        high = {name: min(least[name] + 1, low[name] + 6) for name in low}
        for counts in boxes(low, high):
            quiet = not full_ponds(net, poured, counts)
            self.assertIs(is_quiet(net, poured, counts), quiet)
            if quiet:
                self.assertTrue(no_more(least, counts))


class LargeTest(ThingsTestCase):
    def timed(self, ask, stand):
        began = time.perf_counter()
        told = ask(stand)
        self.assertLess(time.perf_counter() - began, SECONDS)
        return told

    def check(self, stand, told, low):
        """At rest, the same net and poured, no count less than ahead, and none that could be less."""
        self.told_true(told.net() == stand.net())
        self.assertEqual(told.pours(), stand.pours())
        waters = waters_of(told.net(), told.pours(), told.counts())
        self.assertTrue(all(waters[name] < told.net().brim(name) for name in waters))
        self.assertTrue(no_more(low, told.counts()))
        self.assertEqual(unneeded(told.net(), told.pours(), told.counts(), low), [])

    def test_rested(self):
        for stand in large_stands():
            self.check(stand, self.timed(rested, stand), stand.counts())

    def test_settled(self):
        for stand in large_stands():
            told = self.timed(settled, stand)
            self.check(stand, told, dict.fromkeys(TWELVE, 0))
            self.assertTrue(no_more(told.counts(), rested(stand).counts()))

    def test_a_spill_ahead_leads_to_the_same_rest(self):
        for stand in large_stands():
            for name in spilling(stand)[:2]:
                self.told_true(rested(spilled(stand, name)) == rested(stand))

    def test_one_more_drop_on_what_is_settled(self):
        for net in large_nets():
            told = settled(Stand(net, dict.fromkeys(TWELVE, GREAT)))
            poured = {**told.pours(), "f": GREAT + 1}
            more = self.timed(rested, Stand(net, poured, told.counts()))
            self.told_true(more == settled(more))
            self.check(more, more, told.counts())

    def test_greater_numbers_that_came_back(self):
        stand = rested(Stand(ring(60, 1), dict.fromkeys(TWELVE, GREAT)))
        again = Stand(stand.net(), stand.counts(), stand.counts())
        self.check(again, self.timed(rested, again), again.counts())
        self.check(again, self.timed(settled, again), {})


if __name__ == "__main__":
    unittest.main()
