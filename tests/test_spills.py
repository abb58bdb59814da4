"""Points 2, 3, 9, 10 and the interface's spills."""

import unittest

from backwater.errors import BadTimes, CantSpill, NoPond
from backwater.nets import Net
from backwater.spills import at_rest, can_spill, most_spills, soaked, spilled, spilling
from backwater.stands import Stand
from tests.plain import full_ponds, large_stands, small_stands, waters_of
from tests.things import GREAT, NO_KEYS, NO_NAMES, NO_TIMES, ThingsTestCase

BRIMS = {"c": 5, "a": 9, "b": 4}
PIPES = {("b", "a"): 3, ("c", "a"): 2, ("a", "c"): 4, ("c", "b"): 1}
NET = Net(BRIMS, PIPES)
POURED = {"b": 7, "a": 100}
COUNTS = {"c": 3, "a": 6}
ONE = Net({"a": 4})
NO_PONDS = ["x", "aa", *NO_NAMES, *NO_KEYS]


def of_water(water):
    """A stand of one pond, brim 4, that has this water."""
    counts = max(0, -(water // 4))
    return Stand(ONE, {"a": water + 4 * counts}, {"a": counts})


class AskedTest(ThingsTestCase):
    def setUp(self):
        # Waters: a 52, b 10, c 9.
        self.stand = Stand(NET, POURED, COUNTS)

    def test_most(self):
        self.assertEqual([most_spills(self.stand, name) for name in "abc"], [5, 2, 1])
        self.assertEqual(most_spills(name="b", stand=self.stand), 2)

    def test_most_at_the_edges_of_the_brim(self):
        told = {-GREAT: 0, -9: 0, -4: 0, -1: 0, 0: 0, 1: 0, 3: 0, 4: 1, 5: 1, 7: 1, 8: 2, 9: 2, 12: 3}
        for water, most in told.items():
            with self.subTest(water=water):
                stand = of_water(water)
                self.assertEqual(stand.water("a"), water)
                self.assertEqual(most_spills(stand, "a"), most)
                self.assertIs(most_spills(stand, "a").__class__, int)
                self.assertIs(can_spill(stand, "a"), most >= 1)
                self.assertEqual(spilling(stand), ["a"] if most else [])
                self.assertIs(at_rest(stand), most == 0)

    def test_most_of_a_brim_of_one(self):
        net = Net({"a": 1})
        self.assertEqual([most_spills(Stand(net, {"a": water}), "a") for water in (0, 1, 2)], [0, 1, 2])

    def test_can_spill_so_many_times(self):
        for times, told in ((1, True), (4, True), (5, True), (6, False), (7, False), (GREAT, False)):
            self.assertIs(can_spill(self.stand, "a", times), told)
            self.assertIs(can_spill(times=times, name="a", stand=self.stand), told)
        self.told_true(can_spill(self.stand, "c"))
        self.told_true(can_spill(self.stand, name="c", times=1))
        self.told_false(can_spill(self.stand, "c", 2))
        self.told_false(can_spill(of_water(3), "a"))
        self.told_false(can_spill(of_water(-3), "a"))

    def test_spilling_is_sorted(self):
        self.assertEqual(spilling(self.stand), ["a", "b", "c"])
        self.assertEqual(spilling(stand=Stand(NET, {"c": 5, "b": 3, "a": 9})), ["a", "c"])
        self.assertEqual(spilling(Stand(NET)), [])
        self.assertIs(spilling(self.stand).__class__, list)

    def test_at_rest(self):
        self.told_false(at_rest(self.stand))
        self.told_true(at_rest(Stand(NET, {"a": 8, "b": 3, "c": 4})))
        self.told_false(at_rest(Stand(NET, {"a": 8, "b": 3, "c": 5})))
        self.told_true(at_rest(stand=Stand(NET, {}, {"b": 1})))

    def test_spilled_once(self):
        told = spilled(self.stand, "a")
        self.assertIs(told.__class__, Stand)
        self.told_true(told == Stand(NET, POURED, {"c": 3, "a": 7}))
        self.assertEqual(told.waters(), {"a": 43, "b": 10, "c": 13})

    def test_spilled_so_many_times(self):
        self.told_true(spilled(self.stand, "a", 5) == Stand(NET, POURED, {"c": 3, "a": 11}))
        self.told_true(spilled(times=2, name="b", stand=self.stand) == Stand(NET, POURED, {**COUNTS, "b": 2}))
        self.told_true(spilled(self.stand, "c", 1) == Stand(NET, POURED, {"c": 4, "a": 6}))

    def test_at_the_brim_and_at_twice_the_brim(self):
        self.assertEqual(spilled(of_water(4), "a").waters(), {"a": 0})
        self.assertEqual(spilled(of_water(8), "a", 2).waters(), {"a": 0})
        self.assertEqual(spilled(of_water(7), "a").waters(), {"a": 3})

    def test_soaked(self):
        # a soaks 5, b 1, c 2.
        self.assertEqual(soaked(self.stand), 5 * 6 + 2 * 3)
        self.assertEqual(soaked(stand=Stand(NET, None, {"b": 7})), 7)
        self.assertEqual(soaked(Stand(NET, POURED)), 0)

    def test_what_does_not_soak(self):
        net = Net({"a": 3, "b": 3}, {("a", "b"): 3})
        self.assertEqual(soaked(Stand(net, None, {"a": 5})), 0)
        self.assertEqual(soaked(Stand(net, None, {"a": 5, "b": 2})), 6)

    def test_no_ponds(self):
        stand = Stand(Net({}))
        self.assertEqual((spilling(stand), soaked(stand)), ([], 0))
        self.told_true(at_rest(stand))
        for ask in (most_spills, can_spill, spilled):
            self.refused(NoPond, ask, stand, "a", name="a")

    def test_numbers_of_forty_figures(self):
        stand = Stand(NET, {"a": GREAT}, {"b": GREAT, "c": GREAT})
        most = (GREAT + 3 * GREAT + 2 * GREAT) // 9
        self.assertEqual(most_spills(stand, "a"), most)
        self.assertEqual(most_spills(stand, "b"), 0)
        self.told_true(can_spill(stand, "a", most))
        self.told_false(can_spill(stand, "a", most + 1))
        self.assertEqual(spilled(stand, "a", most).water("a"), (6 * GREAT) % 9)
        self.refused(CantSpill, spilled, stand, "a", most + 1, name="a", most=most)
        self.assertEqual(soaked(stand), GREAT + 2 * GREAT)


class RefusedTest(ThingsTestCase):
    def setUp(self):
        self.stand = Stand(NET, POURED, COUNTS)

    def test_no_pond_of_anything(self):
        for ask in (most_spills, can_spill, spilled):
            for at, thing in enumerate(NO_PONDS):
                with self.subTest(ask=ask.__name__, at=at):
                    self.refused(NoPond, ask, self.stand, thing, name=thing)

    def test_no_times_of_anything(self):
        for ask in (can_spill, spilled):
            for at, thing in enumerate(NO_TIMES):
                with self.subTest(ask=ask.__name__, at=at):
                    self.refused(BadTimes, ask, self.stand, "a", thing)
                    self.refused(BadTimes, ask, self.stand, named={"name": "c", "times": thing})

    def test_more_times_than_most(self):
        for name, most in (("a", 5), ("b", 2), ("c", 1)):
            for times in (most + 1, most + 2, GREAT):
                self.refused(CantSpill, spilled, self.stand, name, times, name=name, most=most)

    def test_a_pond_that_cant_spill_at_all(self):
        for water in (3, 0, -1, -4, -GREAT):
            self.refused(CantSpill, spilled, of_water(water), "a", name="a", most=0)
            self.refused(CantSpill, spilled, of_water(water), "a", GREAT, name="a", most=0)

    def test_what_is_told_first_is_raised_first(self):
        # Each call is wrong in all that comes behind its own refusal, too.
        for ask in (can_spill, spilled):
            for thing in (0, None, True, -GREAT, "1", [1], {}):
                self.refused(NoPond, ask, self.stand, "x", thing, name="x")
                self.refused(NoPond, ask, self.stand, None, thing, name=None)
                self.refused(BadTimes, ask, Stand(NET), "a", thing)
            self.refused(NoPond, ask, self.stand, "x", GREAT, name="x")

    def test_numbers_of_any_size_can_be_told_in_a_refusal(self):
        # Python itself does not show numbers of more than 4300 figures.
        huge = 10 ** 5000
        self.refused(CantSpill, spilled, Stand(ONE, {"a": 4 * huge}), "a", huge + 1, name="a", most=huge)


class OwnTest(ThingsTestCase):
    def test_stands_stay_as_they_were(self):
        stand = Stand(NET, POURED, COUNTS)
        for ask in (most_spills, can_spill, spilled):
            ask(stand, "a")
            self.refused(NoPond, ask, stand, "x", name="x")
        self.refused(CantSpill, spilled, stand, "a", 6)
        self.refused(BadTimes, spilled, stand, "a", 0)
        spilling(stand)
        at_rest(stand)
        soaked(stand)
        self.told_true(stand == Stand(Net(BRIMS, PIPES), POURED, COUNTS))

    def test_what_came_back_has_no_later_bearing(self):
        stand = Stand(NET, POURED, COUNTS)
        spilling(stand).clear()
        self.assertEqual(spilling(stand), ["a", "b", "c"])
        told = spilled(stand, "a")
        told.counts().clear()
        told.pours().clear()
        told.net().brims().clear()
        self.told_true(told == spilled(stand, "a"))
        self.told_true(stand == Stand(NET, POURED, COUNTS))

    def test_asked_again_answered_alike(self):
        stand = Stand(NET, POURED, COUNTS)
        for _ in range(3):
            self.assertEqual(most_spills(stand, "a"), 5)
            self.told_true(spilled(stand, "b") == Stand(NET, POURED, {**COUNTS, "b": 1}))


class PlainTest(ThingsTestCase):
    def test_against_the_plain_reckoning(self):
        for stand in small_stands(9, 300):
            net, poured, counts = stand.net(), stand.pours(), stand.counts()
            full = full_ponds(net, poured, counts)
            self.assertEqual(spilling(stand), full)
            self.assertIs(at_rest(stand), not full)
            for name in net.ponds():
                self.check_pond(stand, name)

    def check_pond(self, stand, name):
        """Spilled one by one, till it can't any more, it is spilled most times."""
        most = most_spills(stand, name)
        self.assertIs(can_spill(stand, name), most > 0)
        ahead = stand
        for times in range(1, most + 1):
            self.told_true(can_spill(stand, name, times))
            ahead = spilled(ahead, name)
            self.told_true(ahead == spilled(stand, name, times))
        self.assertNotIn(name, full_ponds(ahead.net(), ahead.pours(), ahead.counts()))
        self.told_false(can_spill(stand, name, most + 1))
        self.refused(CantSpill, spilled, stand, name, most + 1, name=name, most=most)

    def test_all_that_is_poured_is_all_waters_and_what_is_soaked(self):
        for stand in [*small_stands(10, 300), *large_stands()]:
            waters = waters_of(stand.net(), stand.pours(), stand.counts())
            self.assertEqual(stand.waters(), waters)
            self.assertEqual(sum(stand.pours().values()), sum(waters.values()) + soaked(stand))


if __name__ == "__main__":
    unittest.main()
