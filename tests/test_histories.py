"""Points 2, 3, 4, 18, 19, 22 and the interface's histories."""

import random
import time
import unittest

from backwater.basins import Basin
from backwater.errors import (
    BadAmount, BadBrim, BadDeed, BadLot, BadName, BadPipe, BadPlace, BadTimes, CantSpill, CantUnspill, Joined, Needed,
    NoPipe, NoPond, NoPour, NotAtRest, Taken, TooMany, WaterError, Wet,
)
from backwater.histories import History
from backwater.whys import is_settled
from tests.model import Model, Refusal, do_on_basin, drawn_deed
from tests.plain import unneeded
from tests.things import GREAT, NO_DEEDS, NO_TIMES, TWELVE, ThingsTestCase

DEEDS = [
    ("dig", "a", 4), ("dig", "b", 5), ("pipe", "a", "b", 3), ("pour", "p", "a", 40), ("rest",), ("pour", "q", "b", 7),
    ("spill", "b", 1), ("settle",), ("back", "p"), ("unspill", ["a"], 2), ("brim", "b", 6), ("dig", "c", 1),
    ("fill", "c"), ("cut", "a", "b"), ("pipe", "b", "a", 1),
]
OF_COUNTS = ("spill", "unspill", "rest", "settle")
SECONDS = 3


def kept(deeds):
    """Deeds as a history tells them."""
    return [(deed[0], tuple(deed[1]), deed[2]) if deed[0] == "unspill" else deed for deed in deeds]


def with_deeds(deeds):
    history = History()
    for deed in deeds:
        history.do(deed)
    return history


def seen(history):
    """All that can be seen of a history."""
    basin = history.basin()
    return history.deeds(), basin.net(), basin.pours(), basin.counts(), len(history)


class HistoryTestCase(ThingsTestCase):
    def refused_unchanged(self, error, history, method, *args, **fields_and_names):
        ahead = seen(history)
        self.refused(error, getattr(history, method), *args, **fields_and_names)
        self.assertEqual(seen(history), ahead)


class DoTest(HistoryTestCase):
    def test_no_deeds(self):
        history = History()
        self.assertEqual((history.deeds(), len(history)), ([], 0))
        self.told_true(history.basin() == Basin())
        for at in (0, 1, -1, None):
            self.refused_unchanged(BadPlace, history, "without", at)
            self.refused_unchanged(BadPlace, history, "lift", at)

    def test_each_deed_as_the_basin_does_it(self):
        history, basin = History(), Basin()
        for at, deed in enumerate(DEEDS):
            told = history.do(deed)
            self.assertEqual(told, do_on_basin(basin, deed))
            self.assertIs(told is None, deed[0] not in ("rest", "settle"))
            self.told_true(history.basin() == basin)
            self.assertEqual(history.deeds(), kept(DEEDS[:at + 1]))
            self.assertEqual(len(history), at + 1)

    def test_rest_and_settle_tell_a_dict(self):
        history = with_deeds(DEEDS[:4])
        self.assertEqual(history.do(("rest",)), {"a": 10, "b": 6})
        self.assertEqual(history.do(deed=("settle",)), {"a": 0, "b": 0})
        history.do(("back", "p"))
        self.assertEqual(history.do(("settle",)), {"a": -10, "b": -6})

    def test_kinds(self):
        history = with_deeds(DEEDS)
        self.assertIs(history.deeds().__class__, list)
        self.assertEqual({deed.__class__ for deed in history.deeds()}, {tuple})
        self.assertIs(history.deeds()[9][1].__class__, tuple)
        self.assertIs(history.basin().__class__, Basin)
        self.assertIs(history.without(9).__class__, Basin)
        self.assertIsNone(history.lift(9))

    def test_a_lot_as_a_list_and_as_a_tuple(self):
        ahead = DEEDS[:9]
        one, other = with_deeds([*ahead, ("unspill", ["a"], 2)]), with_deeds([*ahead, ("unspill", ("a",), 2)])
        self.assertEqual(one.deeds(), other.deeds())
        self.assertEqual(one.deeds()[-1], ("unspill", ("a",), 2))
        both = with_deeds([*ahead, ("unspill", ["b", "a"], 1)])
        self.assertEqual(both.deeds()[-1], ("unspill", ("b", "a"), 1))

    def test_no_deed_of_anything(self):
        for history in (History(), with_deeds(DEEDS)):
            for at, thing in enumerate(NO_DEEDS):
                with self.subTest(at=at):
                    self.refused_unchanged(BadDeed, history, "do", thing)
                    self.refused_unchanged(BadDeed, history, "do", named={"deed": thing})

    def test_too_few_or_too_many_things(self):
        history = with_deeds(DEEDS)
        for deed in [*DEEDS, ("rest",), ("settle",), ("back", "q"), ("cut", "b", "a")]:
            self.refused_unchanged(BadDeed, history, "do", (*deed, 1))
            self.refused_unchanged(BadDeed, history, "do", deed[:-1])
            self.refused_unchanged(BadDeed, history, "do", list(deed))
            self.refused_unchanged(BadDeed, history, "do", (deed,))
            self.refused_unchanged(BadDeed, history, "do", (deed[0].upper(), *deed[1:]))
            self.refused_unchanged(BadDeed, history, "do", (None, *deed[1:]))

    def test_refused_as_the_basin_refuses_it(self):
        history = with_deeds(DEEDS[:9])
        for deed, error, fields in (
            (("pour", None, None, None), BadName, {"name": None}), (("pour", "p", [], -1), NoPond, {"name": []}),
            (("pour", "q", "a", True), BadAmount, {}), (("pour", "q", "a", 1), Taken, {"name": "q"}),
            (("back", {}), BadName, {"name": {}}), (("back", "p"), NoPour, {"name": "p"}),
            (("dig", "a", 0), Taken, {"name": "a"}), (("dig", "A", 0), BadName, {"name": "A"}),
            (("dig", "c", None), BadBrim, {"name": "c"}), (("dig", "c", 61), BadBrim, {"name": "c"}),
            (("fill", "x"), NoPond, {"name": "x"}), (("fill", "a"), Joined, {"name": "a"}),
            (("brim", ["a"], 1), NoPond, {"name": ["a"]}), (("brim", "a", True), BadBrim, {"name": "a"}),
            (("pipe", "x", None, 0), NoPond, {"name": "x"}), (("pipe", "a", "a", 1), BadPipe, {"pair": ("a", "a")}),
            (("pipe", "b", "a", 0), BadPipe, {"pair": ("b", "a")}), (("cut", "b", "x"), NoPond, {"name": "x"}),
            (("cut", "b", "a"), NoPipe, {"pair": ("b", "a")}), (("spill", 1, 0), NoPond, {"name": 1}),
            (("spill", "a", 0), BadTimes, {}), (("spill", "a", 1), CantSpill, {"name": "a", "most": 0}),
            (("unspill", None, 0), BadLot, {}), (("unspill", ["a"], None), BadTimes, {}),
            (("unspill", ["b"], GREAT), CantUnspill, {"most": 0}),
        ):
            with self.subTest(deed=deed):
                self.refused_unchanged(error, history, "do", deed, **fields)
        history.do(("pour", "p", "b", 99))
        self.refused_unchanged(NotAtRest, history, "do", ("unspill", None, 0), name="b")
        history.do(("cut", "a", "b"))
        self.refused_unchanged(Wet, history, "do", ("fill", "b"), name="b")

    def test_eighty_and_one_more(self):
        history = with_deeds([("dig", "a", 4)])
        for at in range(79):
            history.do(("brim", "a", at % 60 + 1))
        self.assertEqual(len(history), 80)
        for deed in (("rest",), ("settle",), ("dig", "a", 4), ("dig", "b", 4), ("unspill", None, None), ("pour", 1, 2, 3)):
            self.refused_unchanged(TooMany, history, "do", deed, kind="deeds")
        for thing in (None, ("rest", 1), (), ["rest"], "rest", ("dig", "b")):
            self.refused_unchanged(BadDeed, history, "do", thing)
        history.lift(5)
        self.assertEqual(len(history), 79)
        history.do(("rest",))
        self.refused_unchanged(TooMany, history, "do", ("rest",), kind="deeds")

    def test_refused_deeds_take_no_room(self):
        history = History()
        for _ in range(100):
            self.refused(NoPond, history.do, ("fill", "a"), name="a")
        history.do(("dig", "a", 4))
        self.assertEqual(history.deeds(), [("dig", "a", 4)])


class WithoutTest(HistoryTestCase):
    def test_the_first_the_last_and_a_middle_one(self):
        deeds = [("dig", "a", 4), ("dig", "b", 5), ("pour", "p", "a", 9), ("rest",), ("pour", "q", "a", 22), ("brim", "a", 3)]
        for at, others in ((1, (0, 2, 4, 5)), (5, (0, 1, 2, 4)), (2, (0, 1, 4, 5)), (4, (0, 1, 2, 5)), (3, (0, 1, 2, 4, 5))):
            basin = Basin()
            for place in others:
                do_on_basin(basin, deeds[place])
            basin.settle()
            history = with_deeds(deeds)
            ahead = seen(history)
            self.told_true(history.without(at) == basin)
            self.told_true(history.without(at=at) == basin)
            self.assertEqual(seen(history), ahead)
            history.lift(at)
            self.told_true(history.basin() == basin)
            self.assertEqual(history.deeds(), deeds[:at] + deeds[at + 1:])

    def test_the_only_one(self):
        history = with_deeds([("dig", "a", 4)])
        self.told_true(history.without(0) == Basin())
        history.lift(at=0)
        self.assertEqual(seen(history), seen(History()))

    def test_it_is_settled_though_the_history_never_was(self):
        history = with_deeds([("dig", "a", 4), ("pour", "p", "a", 40), ("pour", "q", "a", 2)])
        self.assertEqual(history.basin().counts(), {"a": 0})
        self.assertEqual(history.without(2).counts(), {"a": 10})
        history.lift(2)
        self.assertEqual(history.basin().counts(), {"a": 10})

    def test_nothing_is_left_of_what_was_lifted(self):
        history = with_deeds([("dig", "a", 4), ("pour", "p", "a", 40), ("rest",), ("pour", "q", "a", 2)])
        self.assertEqual(history.basin().counts(), {"a": 10})
        history.lift(1)
        self.assertEqual(history.basin().counts(), {"a": 0})
        self.assertEqual(history.deeds(), [("dig", "a", 4), ("rest",), ("pour", "q", "a", 2)])

    def test_spills_that_could_not_be_done_any_more_are_left_out(self):
        deeds = [("dig", "a", 4), ("pour", "p", "a", 40), ("spill", "a", 10), ("back", "p"), ("unspill", ["a"], 3),
                 ("pour", "q", "a", 5)]
        history = with_deeds(deeds)
        basin = history.without(2)
        self.assertEqual((basin.pours(), basin.counts()), ([("q", "a", 5)], {"a": 1}))
        history.lift(2)
        self.assertEqual(history.deeds(), kept([deeds[0], deeds[1], deeds[3], deeds[4], deeds[5]]))
        history.lift(4)
        self.assertEqual(history.basin().counts(), {"a": 0})
        self.assertEqual(history.deeds(), kept([deeds[0], deeds[1], deeds[3], deeds[4]]))
        # The pour is taken back behind it, so it is needed, wherever the spills stand.
        self.refused_unchanged(Needed, history, "lift", 1, at=2)

    def test_needed_tells_the_place_in_the_history(self):
        deeds = [("dig", "a", 4), ("rest",), ("dig", "b", 5), ("settle",), ("pour", "p", "b", 1), ("pipe", "a", "b", 1),
                 ("cut", "a", "b"), ("back", "p"), ("fill", "b"), ("dig", "b", 9), ("pour", "p", "b", 2)]
        history = with_deeds(deeds)
        for at, needed in ((0, 5), (2, 4), (4, 7), (5, 6), (6, 8), (7, 8), (8, 9), (9, 10)):
            with self.subTest(at=at):
                self.refused_unchanged(Needed, history, "without", at, at=needed)
                self.refused_unchanged(Needed, history, "lift", at, at=needed)
                self.refused_unchanged(Needed, history, "lift", named={"at": at}, at=needed)
        for at in (1, 3, 10):
            self.told_true(is_settled(history.without(at).stand()))
        history.lift(10)
        history.lift(9)
        self.assertEqual(history.basin().net().ponds(), ["a"])
        history.lift(1)
        self.refused_unchanged(Needed, history, "lift", 0, at=4)

    def test_places_of_anything(self):
        history = with_deeds(DEEDS)
        for at, thing in enumerate([*[thing for thing in NO_TIMES if thing.__class__ is not int], -1, -2, -15, 15, 16,
                                    GREAT, -GREAT]):
            with self.subTest(at=at):
                for method in ("without", "lift"):
                    self.refused_unchanged(BadPlace, history, method, thing)
                    self.refused_unchanged(BadPlace, history, method, named={"at": thing})
        history.lift(14)
        self.refused_unchanged(BadPlace, history, "lift", 14)

    def test_a_lifted_history_goes_on(self):
        history = with_deeds([("dig", "a", 4), ("dig", "b", 4), ("pour", "p", "a", 9)])
        history.lift(1)
        self.refused_unchanged(NoPond, history, "do", ("pour", "q", "b", 1), name="b")
        history.do(("dig", "b", 2))
        history.do(("pour", "q", "b", 1))
        self.assertEqual(history.deeds(), [("dig", "a", 4), ("pour", "p", "a", 9), ("dig", "b", 2), ("pour", "q", "b", 1)])
        self.assertEqual(history.basin().net().brims(), {"a": 4, "b": 2})


class OwnTest(HistoryTestCase):
    def test_what_came_back_has_no_later_bearing(self):
        history = with_deeds(DEEDS)
        ahead = seen(history)
        history.deeds().clear()
        history.deeds().append(("rest",))
        for basin in (history.basin(), history.without(4)):
            basin.settle()
            basin.become(basin.net(), [])
            basin.dig("z")
        self.assertEqual(seen(history), ahead)
        again = with_deeds(DEEDS[:4])
        told = again.do(("rest",))
        told.clear()
        self.assertEqual(again.basin().counts(), {"a": 10, "b": 6})

    def test_what_came_back_stays_as_it_was(self):
        history = with_deeds(DEEDS)
        deeds, basin, without = history.deeds(), history.basin(), history.without(4)
        one, other = history.basin(), history.without(4)
        history.do(("settle",))
        history.lift(5)
        self.assertEqual(deeds, kept(DEEDS))
        self.told_true(basin == one)
        self.told_true(without == other)

    def test_later_changes_of_a_lot_have_no_bearing(self):
        lot = ["a"]
        deed = ("unspill", lot, 2)
        history = with_deeds(DEEDS[:9])
        history.do(deed)
        self.assertEqual(deed, ("unspill", ["a"], 2))
        lot.append("b")
        lot[0] = None
        self.assertEqual(history.deeds()[-1], ("unspill", ("a",), 2))
        self.told_true(with_deeds(history.deeds()).basin() == history.basin())

    def test_no_history_knows_of_another_one(self):
        one, other = with_deeds(DEEDS[:4]), with_deeds(DEEDS[:4])
        one.do(("back", "p"))
        one.lift(2)
        self.assertEqual(seen(other), seen(with_deeds(DEEDS[:4])))
        self.assertEqual(seen(History()), ([], Basin().net(), [], {}, 0))

    def test_asked_again_answered_alike(self):
        history = with_deeds(DEEDS)
        self.assertEqual(seen(history), seen(history))
        self.told_true(history.without(5) == history.without(5))


class DrawnTest(HistoryTestCase):
    def drawn(self, seed, many):
        """A history of drawn deeds, held against a model and a basin all the way."""
        chance = random.Random(seed)
        history, basin, model, done = History(), Basin(), Model(), []
        while len(done) < many:
            deed = drawn_deed(chance, model)
            try:
                told = model.do(deed)
            except Refusal as refusal:
                with self.assertRaises(WaterError) as caught:
                    history.do(deed)
                self.assertEqual(caught.exception.__class__.__name__, refusal.error)
                self.assertEqual(vars(caught.exception), refusal.fields)
            else:
                self.assertEqual(history.do(deed), told)
                do_on_basin(basin, deed)
                done.append(deed)
            self.told_true(history.basin() == basin)
            self.assertEqual(history.deeds(), kept(done))
        return history, done

    def left(self, done, at):
        """The model on which all deeds but one, and those of counts, were done; or the place of the first refused."""
        model = Model()
        for place, deed in enumerate(done):
            if place != at and deed[0] not in OF_COUNTS:
                try:
                    model.do(deed)
                except Refusal:
                    return place
        model.do_settle()
        return model

    def check_basin(self, basin, model):
        self.assertEqual((basin.net().brims(), basin.net().pipes()), (model.brims, model.pipes))
        self.assertEqual((basin.pours(), basin.counts()), (model.pour_list(), model.counts))

    def test_without_and_lift_against_the_other_deeds(self):
        lifted = needed = 0
        for seed in range(12):
            history, done = self.drawn(7000 + seed, 60)
            chance = random.Random(seed)
            while done:
                at = chance.randrange(len(done))
                left = self.left(done, at)
                if left.__class__ is int:
                    self.refused_unchanged(Needed, history, "without", at, at=left)
                    self.refused_unchanged(Needed, history, "lift", at, at=left)
                    needed += 1
                    # Any deed goes once none behind it is there any more.
                    at = len(done) - 1
                    left = self.left(done, at)
                ahead = seen(history)
                self.check_basin(history.without(at), left)
                self.assertEqual(seen(history), ahead)
                history.lift(at)
                del done[at]
                self.check_basin(history.basin(), left)
                self.assertEqual(history.deeds(), kept(done))
                lifted += 1
            self.told_true(history.basin() == Basin())
        self.assertGreater(min(lifted, needed), 150)

    def test_deeds_go_on_behind_a_lift(self):
        for seed in range(8):
            history, done = self.drawn(8000 + seed, 40)
            for at in (0, 20, 39):
                if self.left(done, at).__class__ is int:
                    continue
                history.lift(at)
                model = self.left(done, at)
                deed = ("dig", "zz", 3)
                if len(model.brims) < 12:
                    history.do(deed)
                    model.do(deed)
                self.check_basin(history.basin(), model)
                break


class LargeTest(HistoryTestCase):
    def test_eighty_deeds_with_numbers_of_forty_figures(self):
        deeds = [("dig", name, 60) for name in TWELVE]
        deeds += [("pipe", one, other, 60 if at < 11 else 59) for at, (one, other) in enumerate(zip(TWELVE, TWELVE[1:] + "a"))]
        deeds += [("pour", name * 2, name, GREAT) for name in TWELVE]
        deeds += [("spill", "a", GREAT // 60), ("rest",), ("back", "cc"), ("settle",), ("pour", "x", "f", GREAT)]
        deeds += [("brim", "l", 60), ("pipe", "l", "a", 58)]
        deeds += [("pour", name * 3, name, GREAT // 7) for name in TWELVE]
        deeds += [("back", name * 3) for name in TWELVE[:6]] + [("rest",)] * 19
        self.assertEqual(len(deeds), 80)
        history = History()
        for deed in deeds:
            self.timed(history.do, deed)
        self.refused_unchanged(TooMany, history, "do", ("rest",), kind="deeds")
        self.refused_unchanged(Needed, history, "lift", 45, at=57)
        for at in (79, 60, 54, 42, 40, 38, 36, 27):
            basin = self.timed(history.without, at)
            self.check_settled(basin)
            self.timed(history.lift, at)
            self.told_true(history.basin() == basin)
        self.refused_unchanged(Needed, history, "lift", 0, at=12)

    def timed(self, ask, *given):
        began = time.perf_counter()
        told = ask(*given)
        self.assertLess(time.perf_counter() - began, SECONDS)
        return told

    def check_settled(self, basin):
        stand = basin.stand()
        self.told_true(is_settled(stand))
        self.assertEqual(unneeded(stand.net(), stand.pours(), stand.counts(), {}), [])


if __name__ == "__main__":
    unittest.main()
