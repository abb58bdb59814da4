"""Points 2, 3, 4, 16, 17 and the interface's whys."""

import itertools
import time
import unittest

from backwater.errors import NotAtRest
from backwater.lots import greatest_lot
from backwater.nets import Net
from backwater.rests import rested, settled
from backwater.spills import spilling
from backwater.stands import Stand
from backwater.whys import holds, is_row_of_why, is_settled, paper, row_of_why
from tests.plain import (
    can_be_unspilled, full_ponds, large_nets, large_stands, lots_of, ring, rested_one_by_one, small_stands, tells_why,
    waters_of,
)
from tests.things import GREAT, NO_KEYS, NO_LOTS, NO_NAMES, NO_PAPERS, NO_WHOLES, TWELVE, ThingsTestCase

BRIMS = {"b": 4, "a": 4, "c": 3, "d": 9}
PIPES = {("a", "b"): 4, ("b", "a"): 3, ("b", "c"): 1}
NET = Net(BRIMS, PIPES)
SECONDS = 3


def full():
    """Not at rest: b and c can spill."""
    return Stand(NET, {"b": 4, "c": 3})


def lower():
    """At rest, not settled; a and b can be unspilled."""
    return Stand(NET, {"a": 1}, {"a": 5, "b": 5, "c": 1})


def low():
    """Settled: a has spilled 4 into b, and b has spilled 3 of them back; waters: a 3, b 0, c 1, d 3."""
    return Stand(NET, {"a": 4, "d": 3}, {"a": 1, "b": 1})


def made_of_ponds(thing):
    """Whether a wrong thing from elsewhere is a pond, or a list of ponds, and so might be right here."""
    if isinstance(thing, (list, tuple)):
        return all(isinstance(name, str) and name in BRIMS for name in thing)
    return isinstance(thing, str) and thing in BRIMS


def why_ponds(stand):
    return [name for name, count in sorted(stand.counts().items()) if count > 0]


class RowTest(ThingsTestCase):
    def test_a_row_of_one_pond(self):
        net = Net({"a": 4})
        for poured, count, told in ((0, 0, []), (3, 0, []), (4, 1, ["a"]), (7, 1, ["a"]), (3, 1, None), (0, 1, None),
                                    (9, 3, None), (GREAT, GREAT // 4, ["a"]), (GREAT, GREAT // 4 + 1, None)):
            stand = Stand(net, {"a": poured}, {"a": count})
            self.assertEqual(row_of_why(stand), told)
            self.assertIs(is_settled(stand), told is not None)

    def test_those_behind_are_what_counts(self):
        net = Net({"a": 4, "b": 4}, {("a", "b"): 3})
        # a has 1, b has 7 - 4 = 3 once a has spilled.
        stand = Stand(net, {"a": 5, "b": 4}, {"a": 1, "b": 1})
        self.assertEqual(stand.waters(), {"a": 1, "b": 3})
        for row in (["a", "b"], ["b", "a"], ("a", "b"), ("b", "a")):
            self.told_true(is_row_of_why(stand, row))
        # Now b would not have spilled but for a, so a has to stand ahead of it.
        stand = Stand(net, {"a": 4, "b": 3}, {"a": 1, "b": 1})
        self.assertEqual(stand.waters(), {"a": 0, "b": 2})
        self.told_true(is_row_of_why(stand, ["a", "b"]))
        self.told_false(is_row_of_why(stand, ["b", "a"]))
        self.assertEqual(row_of_why(stand), ["a", "b"])
        # The edge: its water is just the width.
        stand = Stand(net, {"a": 4, "b": 4}, {"a": 1, "b": 1})
        self.told_true(is_row_of_why(stand, ["b", "a"]))

    def test_a_row_asked_by_name(self):
        self.assertEqual(sorted(row_of_why(stand=low())), ["a", "b"])
        self.told_true(is_row_of_why(row=row_of_why(low()), stand=low()))
        self.told_true(is_settled(stand=low()))
        self.assertIs(row_of_why(low()).__class__, list)

    def test_a_pair_that_spills_into_each_other(self):
        self.assertEqual(low().waters(), {"a": 3, "b": 0, "c": 1, "d": 3})
        self.assertEqual(row_of_why(low()), ["a", "b"])
        # b has nothing left, so it can't stand ahead of a, from which all that it spilled came.
        self.told_false(is_row_of_why(low(), ["b", "a"]))

    def test_no_ponds(self):
        empty = Stand(Net({}))
        self.assertEqual(row_of_why(empty), [])
        self.told_true(is_settled(empty))
        for nothing in ([], ()):
            self.told_true(is_row_of_why(empty, nothing))
        self.told_false(is_row_of_why(empty, ["a"]))

    def test_ponds_without_counts(self):
        stand = Stand(NET, {"a": 3, "b": 3, "c": 2, "d": 8})
        self.assertEqual(row_of_why(stand), [])
        for name in "abcd":
            self.told_false(is_row_of_why(stand, [name]))

    def test_not_at_rest(self):
        self.refused(NotAtRest, row_of_why, full(), name="b")
        self.refused(NotAtRest, row_of_why, Stand(NET, {"c": 3, "d": 9}), name="c")
        self.refused(NotAtRest, row_of_why, Stand(NET, {"a": 9}, {"a": 1}), name="a")
        self.told_false(is_settled(full()))
        for row in ([], (), ["b"], ["c", "b"], None, "b", deep_row()):
            self.told_false(is_row_of_why(full(), row))

    def test_not_at_rest_though_the_row_would_do(self):
        stand = Stand(Net({"a": 4}), {"a": 8}, {"a": 1})
        self.told_false(is_row_of_why(stand, ["a"]))
        self.told_false(is_settled(stand))
        self.told_false(holds(stand, ("settled", ["a"])))

    def test_at_rest_but_not_settled(self):
        self.assertIsNone(row_of_why(lower()))
        self.told_false(is_settled(lower()))
        for size in range(5):
            for row in itertools.permutations("abcd", size):
                self.told_false(is_row_of_why(lower(), row))
                self.told_false(is_row_of_why(lower(), list(row)))

    def test_rows_with_names_left_out_twice_or_too_many(self):
        stand = settled(Stand(NET, {"a": 7, "b": 9, "c": 2}))
        row = row_of_why(stand)
        self.assertEqual(sorted(row), ["a", "b", "c"])
        self.told_true(is_row_of_why(stand, row))
        for at in range(3):
            self.told_false(is_row_of_why(stand, row[:at] + row[at + 1:]))
            self.told_false(is_row_of_why(stand, row[:at] + ["d"] + row[at + 1:]))
            self.told_false(is_row_of_why(stand, row[:at] + ["x"] + row[at + 1:]))
        for at in range(4):
            for more in "abcdx":
                self.told_false(is_row_of_why(stand, row[:at] + [more] + row[at:]))
        self.told_false(is_row_of_why(stand, []))

    def test_a_row_of_anything(self):
        stand = low()
        row = row_of_why(stand)
        wrong = [thing for thing in [*NO_LOTS, *NO_NAMES, *NO_KEYS, *NO_WHOLES] if not made_of_ponds(thing)]
        for at, thing in enumerate(wrong):
            with self.subTest(at=at):
                self.told_false(is_row_of_why(stand, thing))
                self.told_false(is_row_of_why(full(), thing))
                self.told_false(is_row_of_why(stand, [thing]))
                self.told_false(is_row_of_why(stand, [*row, thing]))
                self.told_false(is_row_of_why(stand, (row[0], thing)))
                self.told_false(is_row_of_why(stand, [thing, row[1]]))
        for thing in ("ab", "ba", {"a": 1, "b": 1}, {"a", "b"}, [row], (tuple(row),), "".join(row)):
            self.told_false(is_row_of_why(stand, thing))


def deep_row():
    return NO_KEYS[-1]


class PaperTest(ThingsTestCase):
    def test_told_first_is_the_first_pond_that_can_spill(self):
        self.assertEqual(paper(full()), ("spill", "b"))
        self.assertEqual(paper(stand=Stand(NET, {"c": 3, "d": 9})), ("spill", "c"))
        # At rest a lot could be unspilled; but d can spill.
        self.assertEqual(paper(Stand(NET, {"a": 1, "d": 9}, {"a": 5, "b": 5, "c": 1})), ("spill", "d"))

    def test_told_then_is_the_greatest_lot(self):
        self.assertEqual(paper(lower()), ("unspill", ["a", "b"]))
        self.assertEqual(paper(Stand(NET, None, {"d": 1, "c": 2})), ("unspill", ["c", "d"]))

    def test_told_then_is_a_row_of_why(self):
        self.assertEqual(paper(Stand(NET)), ("settled", []))
        self.assertEqual(paper(Stand(Net({}))), ("settled", []))
        word, row = paper(low())
        self.assertEqual((word, sorted(row)), ("settled", ["a", "b"]))
        self.told_true(is_row_of_why(low(), row))

    def test_kinds_of_what_is_told(self):
        for stand in (full(), lower(), low()):
            self.assertIs(paper(stand).__class__, tuple)
            self.assertEqual(len(paper(stand)), 2)
            self.assertIs(paper(stand)[0].__class__, str)
        self.assertIs(paper(full())[1].__class__, str)
        self.assertIs(paper(lower())[1].__class__, list)
        self.assertIs(paper(low())[1].__class__, list)

    def test_papers_of_one_stand_do_not_hold_of_another(self):
        stands = [full(), lower(), low()]
        for at, stand in enumerate(stands):
            for other, told in enumerate(map(paper, stands)):
                self.assertIs(holds(stand, told), at == other)
        self.told_true(holds(paper=("spill", "c"), stand=full()))

    def test_spill(self):
        for name, told in (("a", False), ("b", True), ("c", True), ("d", False), ("x", False), (["b"], False)):
            self.assertIs(holds(full(), ("spill", name)), told)
            self.told_false(holds(lower(), ("spill", name)))

    def test_unspill_of_any_lot_that_can_be(self):
        stand = Stand(NET, None, {"d": 1, "c": 2})
        for lot in ("c", "d", "cd", "dc"):
            self.told_true(holds(stand, ("unspill", list(lot))))
            self.told_true(holds(stand, ("unspill", tuple(lot))))
        for lot in (["a"], ["c", "a"], [], (), ["c", "c"], "c", {"c": 1}):
            self.told_false(holds(stand, ("unspill", lot)))
        self.told_false(holds(lower(), ("unspill", ["a", "b", "c"])))

    def test_unspill_of_a_stand_that_is_not_at_rest(self):
        stand = Stand(NET, {"d": 9}, {"c": 2})
        self.told_true(holds(Stand(NET, None, {"c": 2}), ("unspill", ["c"])))
        self.told_false(holds(stand, ("unspill", ["c"])))

    def test_settled_by_any_row_of_why(self):
        net = Net({"a": 4, "b": 4})
        stand = Stand(net, {"a": 4, "b": 4}, {"a": 1, "b": 1})
        for row in (["a", "b"], ["b", "a"], ("a", "b"), ("b", "a")):
            self.told_true(holds(stand, ("settled", row)))
        for row in (["a"], [], ["a", "b", "a"], "ab"):
            self.told_false(holds(stand, ("settled", row)))

    def test_a_paper_of_anything(self):
        for stand in (full(), lower(), low(), Stand(Net({}))):
            for at, thing in enumerate(NO_PAPERS):
                with self.subTest(at=at):
                    self.told_false(holds(stand, thing))

    def test_what_is_in_a_paper_may_be_anything(self):
        wrong = [thing for thing in [*NO_LOTS, *NO_NAMES, *NO_KEYS, *NO_WHOLES] if not made_of_ponds(thing)]
        for at, thing in enumerate(wrong):
            with self.subTest(at=at):
                for stand in (full(), lower(), low()):
                    for word in ("spill", "unspill", "settled"):
                        self.told_false(holds(stand, (word, thing)))
                        self.told_false(holds(stand, (word, ["a", thing])))
                        self.told_false(holds(stand, (word, ("a", "b", thing))))
                    self.told_false(holds(stand, (thing, "b")))
                    self.told_false(holds(stand, (thing, ["a", "b"])))
                    self.told_false(holds(stand, (thing, [])))

    def test_a_list_does_not_do_for_the_paper_itself(self):
        for stand in (full(), lower(), low()):
            self.told_false(holds(stand, list(paper(stand))))
            self.told_false(holds(stand, (*paper(stand), None)))
            self.told_false(holds(stand, paper(stand)[:1]))

    def test_other_words(self):
        for stand in (full(), lower(), low()):
            told = paper(stand)[1]
            for word in ("", "Spill", "spill ", "rest", "why", "settle", "spilled"):
                self.told_false(holds(stand, (word, told)))


class OwnTest(ThingsTestCase):
    def test_what_is_handed_in_stays_as_it_was(self):
        for stand in (full(), lower(), low()):
            kept = Stand(Net(BRIMS, PIPES), stand.pours(), stand.counts())
            row, told = ["b", "a"], paper(stand)
            is_row_of_why(stand, row)
            holds(stand, told)
            holds(stand, ("settled", row))
            holds(stand, ("unspill", row))
            is_settled(stand)
            self.assertEqual((row, told), (["b", "a"], paper(stand)))
            self.told_true(stand == kept)

    def test_what_came_back_has_no_later_bearing(self):
        for stand, ask in ((low(), lambda stand: row_of_why(stand)), (low(), lambda stand: paper(stand)[1]),
                           (lower(), lambda stand: paper(stand)[1]), (Stand(NET), lambda stand: row_of_why(stand))):
            kept = list(ask(stand))
            ask(stand).clear()
            ask(stand).append("d")
            self.assertEqual(ask(stand), kept)
            self.assertIs(is_settled(stand), stand == settled(stand))

    def test_what_came_back_may_be_handed_in_again(self):
        for stand in (full(), lower(), low()):
            self.told_true(holds(stand, paper(stand)))
        self.told_true(is_row_of_why(low(), row_of_why(low())))


class PlainTest(ThingsTestCase):
    def test_a_row_is_there_just_where_no_lot_is_and_that_is_just_where_it_is_settled(self):
        there = missing = 0
        for stand in map(rested, small_stands(21, 300)):
            net, poured, counts = stand.net(), stand.pours(), stand.counts()
            row = row_of_why(stand)
            lots = [lot for lot in lots_of(net.ponds()) if can_be_unspilled(net, poured, counts, lot)]
            least = rested_one_by_one(net, poured, {}, max)
            self.assertIs(row is None, bool(lots))
            self.assertIs(row is None, counts != least)
            self.assertIs(is_settled(stand), counts == least)
            if row is not None:
                self.assertTrue(tells_why(net, poured, counts, row))
                self.told_true(is_row_of_why(stand, row))
            there += bool(row)
            missing += row is None
        self.assertGreater(min(there, missing), 40)

    def test_every_row_of_ponds_against_the_words(self):
        seen = set()
        for stand in small_stands(22, 60):
            for ahead in (stand, rested(stand), settled(stand)):
                net, poured, counts = ahead.net(), ahead.pours(), ahead.counts()
                for size in range(len(net) + 1):
                    for row in itertools.product(net.ponds(), repeat=size):
                        told = tells_why(net, poured, counts, row)
                        self.assertIs(is_row_of_why(ahead, row), told)
                        self.assertIs(is_row_of_why(ahead, list(row)), told)
                        self.assertIs(holds(ahead, ("settled", row)), told)
                        seen.add((told, len(row) > 1))
        self.assertEqual(len(seen), 4)

    def test_not_at_rest_nothing_is_settled(self):
        moving = 0
        for stand in small_stands(23, 200):
            if full_ponds(stand.net(), stand.pours(), stand.counts()):
                moving += 1
                self.told_false(is_settled(stand))
                self.assertEqual(paper(stand), ("spill", spilling(stand)[0]))
                self.told_false(is_row_of_why(stand, why_ponds(stand)))
                self.refused(NotAtRest, row_of_why, stand, name=spilling(stand)[0])
        self.assertGreater(moving, 40)

    def test_papers_against_all_that_could_be_told(self):
        words = {}
        for stand in small_stands(24, 100):
            for ahead in (stand, rested(stand), settled(stand)):
                word, told = paper(ahead)
                words[word] = words.get(word, 0) + 1
                self.told_true(holds(ahead, (word, told)))
                self.check_lots(ahead)
                net, poured, counts = ahead.net(), ahead.pours(), ahead.counts()
                spills = full_ponds(net, poured, counts)
                for name in net.ponds():
                    self.assertIs(holds(ahead, ("spill", name)), name in spills)
                if spills:
                    self.assertEqual((word, told), ("spill", spills[0]))
                elif word == "unspill":
                    self.assertEqual(told, greatest_lot(ahead))
                else:
                    self.assertTrue(tells_why(net, poured, counts, told))
        self.assertEqual(len(words), 3)
        self.assertGreater(min(words.values()), 20)

    def check_lots(self, stand):
        net, poured, counts = stand.net(), stand.pours(), stand.counts()
        resting = not full_ponds(net, poured, counts)
        for lot in lots_of(net.ponds()):
            told = resting and can_be_unspilled(net, poured, counts, lot)
            self.assertIs(holds(stand, ("unspill", lot)), told)
            self.assertIs(holds(stand, ("unspill", tuple(lot[::-1]))), told)


class LargeTest(ThingsTestCase):
    def timed(self, ask, *given):
        began = time.perf_counter()
        told = ask(*given)
        self.assertLess(time.perf_counter() - began, SECONDS)
        return told

    def test_rows_of_settled_stands(self):
        for stand in map(settled, large_stands()):
            row = self.timed(row_of_why, stand)
            self.assertLessEqual(len(row), 12)
            self.assertTrue(tells_why(stand.net(), stand.pours(), stand.counts(), row))
            self.told_true(self.timed(is_row_of_why, stand, tuple(row)))
            self.told_true(self.timed(is_settled, stand))
            self.assertEqual(self.timed(paper, stand), ("settled", row))
            self.told_true(self.timed(holds, stand, ("settled", row)))

    def test_stands_that_are_not_settled(self):
        many = 0
        for net in large_nets():
            least = settled(Stand(net, {"a": GREAT, "l": GREAT // 3})).counts()
            for more in ({"a": 1}, dict.fromkeys(TWELVE, 1), dict.fromkeys(TWELVE, GREAT)):
                counts = {name: least[name] + more.get(name, 0) for name in TWELVE}
                stand = rested(Stand(net, {"a": GREAT, "l": GREAT // 3}, counts))
                self.assertIsNone(self.timed(row_of_why, stand))
                self.told_false(self.timed(is_settled, stand))
                word, lot = self.timed(paper, stand)
                self.assertEqual((word, lot), ("unspill", greatest_lot(stand)))
                self.assertTrue(can_be_unspilled(net, stand.pours(), stand.counts(), lot))
                self.told_true(self.timed(holds, stand, (word, lot)))
                many += 1
        self.assertGreater(many, 40)

    def test_stands_that_are_not_at_rest(self):
        for stand in large_stands():
            name = full_ponds(stand.net(), stand.pours(), stand.counts())[0]
            self.assertEqual(self.timed(paper, stand), ("spill", name))
            self.refused(NotAtRest, row_of_why, stand, name=name)
            self.told_false(self.timed(is_settled, stand))

    def test_one_drop_less_and_it_is_not_settled_any_more(self):
        net = ring(60, 1)
        stand = settled(Stand(net, {"a": GREAT}))
        waters = waters_of(net, stand.pours(), stand.counts())
        short = Stand(net, {"a": GREAT - sum(waters.values()) - 1}, stand.counts())
        self.told_true(is_settled(stand))
        self.told_false(is_settled(short))
        self.assertIsNone(row_of_why(short))


if __name__ == "__main__":
    unittest.main()
