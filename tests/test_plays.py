"""Points 2, 3, 4, 9, 14, 15, 21 and the interface's plays."""

import random
import time
import unittest

from backwater.errors import BadLot, BadPick, CantSpill, CantUnspill, NoPond, NotAtRest
from backwater.nets import Net
from backwater.plays import moved, moves, played
from backwater.rests import rested, settled
from backwater.spills import spilled
from backwater.stands import Stand
from tests.plain import large_nets, large_stands, plain_moves, ring, small_stands, unneeded
from tests.things import GREAT, NO_KEYS, NO_LOTS, NO_NAMES, NO_PICKS, TWELVE, ThingsTestCase

NET = Net({name: 4 for name in "dcba"})
SECONDS = 3


def owing():
    """At rest: a and c have counts that nothing tells why."""
    return Stand(NET, {"b": 3}, {"a": 2, "c": 1})


def full():
    """b and d can spill, b twice."""
    return Stand(NET, {"d": 5, "b": 8}, {"a": 1})


class MovesTest(ThingsTestCase):
    def test_all_that_can_spill_sorted(self):
        self.assertEqual(moves(full()), [("spill", "b"), ("spill", "d")])
        self.assertEqual(moves(stand=Stand(NET, {"c": 4})), [("spill", "c")])

    def test_greatest_lots_sorted(self):
        self.assertEqual(moves(owing()), [("unspill", ["a"]), ("unspill", ["a", "c"]), ("unspill", ["c"])])
        stand = Stand(NET, None, {"b": 1, "a": 1, "d": 1})
        self.assertEqual(moves(stand), [("unspill", list(lot)) for lot in ("ab", "abd", "ad", "bd")])

    def test_each_once_and_the_empty_one_left_out(self):
        self.assertEqual(moves(Stand(NET, None, {"b": 7})), [("unspill", ["b"])])
        # Each of the ring needs the other one: without one of them there is no lot.
        stand = Stand(ring(4, 1, "ab"), {"a": 0, "b": 4}, {"a": 3, "b": 4})
        self.assertEqual(stand.waters(), {"a": 0, "b": 0})
        self.assertEqual(moves(stand), [("unspill", ["a", "b"])])

    def test_none_where_it_is_settled(self):
        for stand in (Stand(NET), Stand(Net({})), settled(full())):
            self.assertEqual(moves(stand), [])

    def test_kinds(self):
        told = moves(owing())
        self.assertEqual([part.__class__ for part in (told, told[0], told[0][0], told[0][1])], [list, tuple, str, list])
        told = moves(full())
        self.assertEqual([part.__class__ for part in (told, told[0], told[0][1])], [list, tuple, str])


class MovedTest(ThingsTestCase):
    def test_done_once(self):
        self.told_true(moved(full(), ("spill", "b")) == Stand(NET, {"d": 5, "b": 8}, {"a": 1, "b": 1}))
        self.told_true(moved(move=("unspill", ["a", "c"]), stand=owing()) == Stand(NET, {"b": 3}, {"a": 1}))
        self.told_true(moved(owing(), ("unspill", ("c", "a"))) == Stand(NET, {"b": 3}, {"a": 1}))
        self.assertIs(moved(full(), ("spill", "b")).__class__, Stand)

    def test_any_lot_that_can_be_unspilled_does(self):
        stand = Stand(NET, None, dict.fromkeys("abcd", 1))
        self.assertNotIn(("unspill", ["a"]), moves(stand))
        self.told_true(moved(stand, ("unspill", ["a"])) == Stand(NET, None, dict.fromkeys("bcd", 1)))

    def test_a_spill_that_is_refused(self):
        for at, thing in enumerate(["x", *NO_NAMES, *NO_KEYS]):
            with self.subTest(at=at):
                self.refused(NoPond, moved, full(), ("spill", thing), name=thing)
        self.refused(CantSpill, moved, full(), ("spill", "a"), name="a", most=0)
        self.refused(CantSpill, moved, owing(), ("spill", "b"), name="b", most=0)

    def test_a_lot_that_is_refused(self):
        for at, thing in enumerate(NO_LOTS):
            with self.subTest(at=at):
                self.refused(NotAtRest, moved, full(), ("unspill", thing), name="b")
                self.refused(BadLot, moved, owing(), ("unspill", thing))
        self.refused(NotAtRest, moved, full(), ("unspill", ["a"]), name="b")
        self.refused(CantUnspill, moved, owing(), ("unspill", ["b"]), most=0)
        self.refused(CantUnspill, moved, owing(), ("unspill", ["a", "b"]), most=0)


class PlayedTest(ThingsTestCase):
    def test_by_picks(self):
        stand, done = played(full(), [1, 0, 0])
        self.assertEqual(done, [("spill", "d"), ("spill", "b"), ("spill", "b")])
        self.told_true(stand == Stand(NET, {"d": 5, "b": 8}, {"a": 1, "b": 2, "d": 1}))

    def test_from_spills_on_to_lots(self):
        stand, done = played(full(), (0, 0, 0, 0))
        self.assertEqual(done, [("spill", "b"), ("spill", "b"), ("spill", "d"), ("unspill", ["a"])])
        self.told_true(stand == settled(full()))

    def test_counted_round_and_round(self):
        for pick, name in ((0, "b"), (1, "d"), (2, "b"), (3, "d"), (GREAT, "d"), (GREAT - 1, "b")):
            stand, done = played(full(), [pick])
            self.assertEqual(done, [("spill", name)])
            self.told_true(stand == spilled(full(), name))
        for pick, lot in ((0, "a"), (1, "ac"), (2, "c"), (3, "a"), (4, "ac"), (GREAT, "a"), (GREAT - 1, "c")):
            self.assertEqual(played(picks=[pick], stand=owing())[1], [("unspill", list(lot))])

    def test_no_picks(self):
        for picks in ([], ()):
            for stand in (full(), owing(), Stand(NET), Stand(Net({}))):
                told = played(stand, picks)
                self.assertIs(told.__class__, tuple)
                self.assertEqual(told[1], [])
                self.told_true(told[0] == stand)

    def test_picks_behind_the_end_have_no_bearing(self):
        ended = played(full(), [0] * 4)
        for picks in ([0] * 5, [0] * 80, [0, 0, 0, 0, GREAT, 7]):
            self.assertEqual(played(full(), picks)[1], ended[1])
            self.told_true(played(full(), picks)[0] == ended[0])
        for stand in (Stand(NET), Stand(Net({}))):
            self.assertEqual(played(stand, [0, 5])[1], [])

    def test_kinds(self):
        told = played(owing(), [0, 0])
        self.assertEqual([part.__class__ for part in (told, *told, told[1][0])], [tuple, Stand, list, tuple])
        self.assertEqual([part.__class__ for part in told[1][0]], [str, list])

    def test_no_picks_of_anything(self):
        for stand in (full(), owing(), Stand(NET), Stand(Net({}))):
            for at, thing in enumerate(NO_PICKS):
                with self.subTest(at=at):
                    self.refused(BadPick, played, stand, thing)
                    self.refused(BadPick, played, named={"stand": stand, "picks": thing})

    def test_a_wrong_pick_behind_the_end_is_refused_too(self):
        for thing in (-1, None, True, "0", [0], {}):
            self.refused(BadPick, played, Stand(NET), [0, thing])
            self.refused(BadPick, played, full(), [*[0] * 20, thing])


class OwnTest(ThingsTestCase):
    def test_what_is_handed_in_stays_as_it_was(self):
        stand, picks, move = owing(), [1, 0, 5], ("unspill", ["c", "a"])
        moves(stand)
        moved(stand, move)
        played(stand, picks)
        self.told_true(stand == owing())
        self.assertEqual((picks, move), ([1, 0, 5], ("unspill", ["c", "a"])))

    def test_what_came_back_has_no_later_bearing(self):
        stand = owing()
        moves(stand)[0][1].append("d")
        moves(stand).clear()
        first, done = played(stand, [0, 1])
        kept = [(word, list(lot)) for word, lot in done]
        done[0][1].clear()
        done.clear()
        first.counts().clear()
        self.assertEqual(moves(stand), [("unspill", ["a"]), ("unspill", ["a", "c"]), ("unspill", ["c"])])
        self.assertEqual(played(stand, [0, 1])[1], kept)

    def test_what_came_back_may_be_handed_in_again(self):
        for stand in (owing(), full()):
            for at, move in enumerate(moves(stand)):
                self.told_true(moved(stand, move) == played(stand, [at])[0])


class PlainTest(ThingsTestCase):
    def plain_moves(self, stand):
        return plain_moves(stand.net(), stand.pours(), stand.counts())

    def test_moves_against_all_greatest_lots(self):
        several = 0
        for stand in small_stands(41, 320):
            for ahead in (stand, rested(stand)):
                told = moves(ahead)
                self.assertEqual(told, self.plain_moves(ahead))
                several += len(told) > 2 and told[0][0] == "unspill"
        self.assertGreater(several, 40)

    def test_plays_by_drawn_picks_all_to_the_end(self):
        chance = random.Random(42)
        both = 0
        for stand in small_stands(43, 120):
            for _ in range(3):
                ahead, done = stand, []
                while moves(ahead):
                    picks = [chance.choice([0, 1, 2, 7, chance.randrange(GREAT)]) for _ in range(chance.randint(1, 80))]
                    ahead = self.check_play(ahead, picks, done)
                self.told_true(ahead == settled(stand))
                both += len({word for word, told in done}) == 2
        self.assertGreater(both, 40)

    def check_play(self, stand, picks, done):
        """The play goes move by move, and ends with the picks or where there's no move."""
        told, some = played(stand, picks)
        for pick, move in zip(picks, some):
            choices = self.plain_moves(stand)
            self.assertEqual(move, choices[pick % len(choices)])
            stand = moved(stand, move)
            done.append(move)
        self.told_true(told == stand)
        self.assertTrue(len(some) == len(picks) or not self.plain_moves(stand))
        return told

    def test_each_move_changes_just_its_counts(self):
        for stand in small_stands(44, 150):
            for ahead in (stand, rested(stand)):
                for word, told in moves(ahead):
                    lot, more = ([told], 1) if word == "spill" else (told, -1)
                    counts = {name: count + more * (name in lot) for name, count in ahead.counts().items()}
                    self.told_true(moved(ahead, (word, told)) == Stand(ahead.net(), ahead.pours(), counts))


class LargeTest(ThingsTestCase):
    def test_eighty_great_picks(self):
        chance = random.Random(45)
        for stand in large_stands():
            for ahead in (stand, rested(stand)):
                picks = [chance.randrange(GREAT) for _ in range(80)]
                began = time.perf_counter()
                told, done = played(ahead, picks)
                self.assertLess(time.perf_counter() - began, SECONDS)
                counts = ahead.counts()
                for word, part in done:
                    for name in [part] if word == "spill" else part:
                        counts[name] += 1 if word == "spill" else -1
                self.told_true(told == Stand(ahead.net(), ahead.pours(), counts))
                self.assertTrue(len(done) == 80 or told == settled(ahead))

    def test_moves_of_great_counts(self):
        for net in large_nets():
            stand = rested(Stand(net, {"a": 5}, dict.fromkeys(TWELVE, GREAT)))
            counts = stand.counts()
            lots = [unneeded(net, stand.pours(), counts, low) for low in ({}, *[{name: counts[name]} for name in TWELVE])]
            told = moves(stand)
            self.assertEqual(told, sorted(("unspill", lot) for lot in {tuple(lot): lot for lot in lots if lot}.values()))
            self.assertGreater(len(told), 0)


if __name__ == "__main__":
    unittest.main()
