"""Points 2, 3, 4, 14, 20 and the interface's downs."""

import time
import unittest

from backwater.downs import over, way_down
from backwater.errors import NotAtRest
from backwater.lots import can_unspill, unspilled
from backwater.nets import Net
from backwater.rests import rested, settled
from backwater.stands import Stand
from tests.plain import (
    can_be_unspilled, full_ponds, large_nets, large_stands, plain_way, rested_one_by_one, ring, small_stands,
)
from tests.things import GREAT, TWELVE, ThingsTestCase

NET = Net({name: 4 for name in "dcba"})
RING = ring(9, 1, "ab")
SECONDS = 3


def owing(**counts):
    """Nothing is poured, so each pond is over by all its count."""
    return Stand(NET, None, counts)


class OverTest(ThingsTestCase):
    def test_over(self):
        self.assertEqual(over(owing(a=3, c=1)), {"a": 3, "b": 0, "c": 1, "d": 0})
        self.assertEqual(over(stand=Stand(NET, {"a": 9, "b": 3}, {"a": 5, "b": 5})), {"a": 3, "b": 5, "c": 0, "d": 0})
        self.assertIs(over(owing(a=3)).__class__, dict)

    def test_over_of_what_is_settled(self):
        for stand in (Stand(NET), settled(Stand(RING, {"a": 50})), Stand(NET, {"a": 3})):
            self.assertEqual(over(stand), dict.fromkeys(stand.net().ponds(), 0))
            self.assertEqual(way_down(stand), [])

    def test_no_ponds(self):
        self.assertEqual(over(Stand(Net({}))), {})
        self.assertEqual(way_down(Stand(Net({}))), [])

    def test_not_at_rest(self):
        for ask in (over, way_down):
            self.refused(NotAtRest, ask, Stand(NET, {"c": 4, "b": 4, "d": 9}), name="b")
            self.refused(NotAtRest, ask, Stand(NET, {"d": 8}, {"a": 3, "d": 1}), name="d")


class WayTest(ThingsTestCase):
    def test_one_lot(self):
        self.assertEqual(way_down(owing(a=3)), [(["a"], 3)])
        self.assertEqual(way_down(owing(d=2, b=2)), [(["b", "d"], 2)])
        self.assertEqual(way_down(stand=owing(a=1, b=1, c=1, d=1)), [(["a", "b", "c", "d"], 1)])

    def test_the_most_over_first_then_with_those_next_below(self):
        self.assertEqual(way_down(owing(a=1, c=5)), [(["c"], 4), (["a", "c"], 1)])
        self.assertEqual(way_down(owing(d=9, b=9, a=4)), [(["b", "d"], 5), (["a", "b", "d"], 4)])
        told = way_down(owing(d=10, c=7, b=3, a=1))
        self.assertEqual(told, [(["d"], 3), (["c", "d"], 4), (["b", "c", "d"], 2), (["a", "b", "c", "d"], 1)])

    def test_lots_with_the_same_times(self):
        self.assertEqual(way_down(owing(a=2, b=4)), [(["b"], 2), (["a", "b"], 2)])
        told = way_down(owing(a=1, b=2, c=3, d=4))
        self.assertEqual(told, [(["d"], 1), (["c", "d"], 1), (["b", "c", "d"], 1), (["a", "b", "c", "d"], 1)])

    def test_what_settled_has_is_not_in_it(self):
        stand = Stand(NET, {"a": 20, "b": 20, "c": 2}, {"a": 7, "b": 5, "c": 2})
        self.assertEqual(way_down(stand), [(["a", "c"], 2)])

    def test_a_ring(self):
        stand = Stand(RING, {"a": 1}, {"a": 5, "b": 5})
        self.assertEqual(way_down(stand), [(["a", "b"], 5)])
        self.told_true(unspilled(stand, ["a", "b"], 5) == settled(stand))

    def test_kinds(self):
        way = way_down(owing(a=1, c=5))
        self.assertEqual([part.__class__ for part in (way, way[0], way[0][0], way[0][1])], [list, tuple, list, int])
        self.assertEqual([len(part) for part in way], [2, 2])


class OwnTest(ThingsTestCase):
    def test_what_is_handed_in_stays_as_it_was(self):
        stand = owing(a=1, c=5)
        over(stand)
        way_down(stand)
        self.told_true(stand == owing(a=1, c=5))

    def test_what_came_back_has_no_later_bearing(self):
        stand = owing(a=1, c=5)
        over(stand).clear()
        over(stand)["a"] = 9
        way_down(stand)[0][0].append("d")
        way_down(stand)[1][0].clear()
        way_down(stand).clear()
        self.assertEqual(over(stand), {"a": 1, "b": 0, "c": 5, "d": 0})
        self.assertEqual(way_down(stand), [(["c"], 4), (["a", "c"], 1)])
        first, second = way_down(stand)
        first[0].append("b")
        self.assertEqual(second[0], ["a", "c"])


class WalkTestCase(ThingsTestCase):
    def check_words(self, stand, least):
        """Point 20's words of over and of the way down, with least as the settled counts."""
        above = {name: count - least[name] for name, count in stand.counts().items()}
        self.assertEqual(over(stand), above)
        way = way_down(stand)
        self.assertEqual(way, plain_way(above))
        self.assertLessEqual(len(way), len(above))
        left = dict(above)
        for lot, times in way:
            most = max(left.values())
            self.assertEqual(lot, sorted(name for name in left if left[name] == most))
            below = max((left[name] for name in left if left[name] != most), default=0)
            self.assertEqual(times, most - max(below, 0))
            self.assertGreater(times, 0)
            for name in lot:
                left[name] -= times
        self.assertEqual(set(left.values()) | {0}, {0})
        return way

    def walk(self, stand, way):
        for lot, times in way:
            self.told_true(can_unspill(stand, lot, times))
            stand = unspilled(stand, lot, times)
        return stand


class PlainTest(WalkTestCase):
    def test_lot_by_lot_against_the_settled_stand(self):
        long = 0
        for stand in map(rested, small_stands(31, 400)):
            net, poured, counts = stand.net(), stand.pours(), stand.counts()
            least = rested_one_by_one(net, poured, {}, max)
            way = self.check_words(stand, least)
            for lot, times in way:
                for _ in range(times):
                    self.assertTrue(can_be_unspilled(net, poured, counts, lot))
                    counts = {name: counts[name] - (name in lot) for name in counts}
                    self.assertEqual(full_ponds(net, poured, counts), [])
            self.assertEqual(counts, least)
            self.told_true(self.walk(stand, way) == settled(stand))
            long += len(way) > 1
        self.assertGreater(long, 40)

    def test_refused_just_where_it_is_not_at_rest(self):
        many = 0
        for stand in small_stands(32, 150):
            full = full_ponds(stand.net(), stand.pours(), stand.counts())
            for ask in (over, way_down) if full else ():
                self.refused(NotAtRest, ask, stand, name=full[0])
                many += 1
        self.assertGreater(many, 40)


class LargeTest(WalkTestCase):
    def stands(self):
        yield from map(rested, large_stands())
        for net in large_nets():
            yield rested(Stand(net, {"a": 5}, dict.fromkeys(TWELVE, GREAT)))
            yield rested(Stand(net, {"g": GREAT}, {name: GREAT // (at + 1) for at, name in enumerate(TWELVE)}))

    def test_ways_down(self):
        longest = 0
        for stand in self.stands():
            began = time.perf_counter()
            way = way_down(stand)
            over(stand)
            self.assertLess(time.perf_counter() - began, SECONDS)
            least = settled(stand)
            self.assertEqual(self.check_words(stand, least.counts()), way)
            self.told_true(self.walk(stand, way) == least)
            longest = max(longest, len(way))
        self.assertEqual(longest, 12)


if __name__ == "__main__":
    unittest.main()
