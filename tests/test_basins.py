"""Points 2, 3, 4, 18, 19 and the interface's basins."""

import itertools
import random
import time
import unittest

from backwater.basins import MOST_POURS, Basin
from backwater.errors import (
    BadAmount, BadBrim, BadLot, BadName, BadPipe, BadPour, BadTimes, CantSpill, CantUnspill, Closed, Joined, NoPipe,
    NoPond, NoPour, NotAtRest, Taken, TooMany, TooWide, WaterError, Wet,
)
from backwater.nets import Net
from backwater.rests import rested, settled
from backwater.stands import Stand
from tests.model import PONDS, POURS, Model, Refusal, do_on_basin, drawn_deed, drawn_name, drawn_number
from tests.plain import drawn_net, full_ponds, large_nets, no_more, ring, unneeded, waters_of
from tests.things import (
    GREAT, NO_COUNTS, NO_KEYS, NO_LOTS, NO_MEASURES, NO_NAMES, NO_POURS, NO_TIMES, THIRTEEN, TWELVE, ThingsTestCase,
)

BRIMS = {"b": 4, "a": 5, "c": 3, "d": 9}
PIPES = {("a", "b"): 4, ("b", "a"): 3, ("b", "c"): 1}
NET = Net(BRIMS, PIPES)
SECONDS = 3


def sixty_names():
    return [one + other for one, other in itertools.islice(itertools.product("abcdefgh", repeat=2), 60)]


def used():
    """A basin with pours and counts, not at rest: waters a 12, b 4, c 4, d 0."""
    basin = Basin(NET)
    basin.pour("q", "a", 7)
    basin.pour("p", "a", 10)
    basin.pour("r", "c", 4)
    basin.spill("a")
    return basin


def with_pour_at(pond, amount=0):
    basin = Basin(NET)
    basin.pour("p", pond, amount)
    return basin


def kept(basin):
    """All that can be seen of a basin."""
    return (basin.net(), basin.pours(), basin.stand(), basin.counts(), basin.waters(), len(basin))


class BasinTestCase(ThingsTestCase):
    def refused_unchanged(self, error, basin, deed, *args, **fields_and_names):
        """Refused, and nothing has changed."""
        ahead, twin = kept(basin), basin.copied()
        self.refused(error, getattr(basin, deed), *args, **fields_and_names)
        self.assertEqual(kept(basin), ahead)
        self.told_true(basin == twin)


class MadeTest(BasinTestCase):
    def test_constant(self):
        self.assertEqual(MOST_POURS, 60)

    def test_without_ponds(self):
        for basin in (Basin(), Basin(None), Basin(net=None), Basin(Net({}))):
            self.told_true(basin.net() == Net({}))
            self.assertEqual(basin.pours(), [])
            self.told_true(basin.stand() == Stand(Net({})))
            self.assertEqual((basin.counts(), basin.waters(), len(basin)), ({}, {}, 0))
            self.assertEqual((basin.rest(), basin.settle()), ({}, {}))

    def test_of_a_net(self):
        basin = Basin(net=NET)
        self.told_true(basin.net() == NET)
        self.assertEqual(basin.pours(), [])
        self.told_true(basin.stand() == Stand(NET))
        self.assertEqual(basin.counts(), dict.fromkeys("abcd", 0))
        self.assertEqual(basin.waters(), dict.fromkeys("abcd", 0))

    def test_kinds_of_what_comes_back(self):
        basin = used()
        for told, kind in ((basin.net(), Net), (basin.pours(), list), (basin.pours()[0], tuple), (len(basin), int),
                           (basin.stand(), Stand), (basin.counts(), dict), (basin.waters(), dict),
                           (basin.copied(), Basin), (basin.rest(), dict), (basin.settle(), dict)):
            self.assertIs(told.__class__, kind)
        for told in (basin.pour("x", "a", 0), basin.back("x"), basin.dig("e"), basin.pipe("e", "d"), basin.cut("e", "d"),
                     basin.brim("e", 7), basin.fill("e"), basin.become(NET, [("p", "a", 99)]), basin.spill("a")):
            self.assertIsNone(told)
        basin.become(NET, [])
        basin.rest()
        self.assertIsNone(basin.unspill(["a"]))

    def test_alike(self):
        self.told_true(Basin() == Basin())
        self.told_true(Basin(NET) == Basin(Net(dict(reversed(BRIMS.items())), PIPES)))
        self.told_true(used() == used())
        self.told_false(used() != used())
        other = Basin(NET)
        for name, pond, amount in (("r", "c", 4), ("p", "a", 10), ("q", "a", 7)):
            other.pour(name, pond, amount)
        self.told_false(other == used())
        other.spill("a")
        self.told_true(other == used())

    def test_not_alike(self):
        for change in (lambda basin: basin.back("p"), lambda basin: basin.pour("x", "a", 0), lambda basin: basin.dig("x"),
                       lambda basin: basin.brim("d", 8), lambda basin: basin.cut("b", "c"), lambda basin: basin.fill("d"),
                       lambda basin: basin.pipe("c", "d", width=1), lambda basin: basin.spill("c")):
            basin = used()
            change(basin)
            self.told_false(basin == used())
            self.told_true(basin != used())
        # The same stand by other pours.
        basin = used()
        basin.become(NET, [("p", "a", 17), ("r", "c", 4)])
        self.told_true(basin.stand() == used().stand())
        self.told_false(basin == used())

    def test_alike_to_nothing_else(self):
        for thing in (None, 0, "", [], {}, NET, Net({}), Stand(Net({})), Stand(NET), Basin, Model()):
            self.told_false(Basin() == thing)
            self.told_false(used() == thing)
            self.told_true(used() != thing)


class PourTest(BasinTestCase):
    def test_pours_come_together_in_the_stand(self):
        basin = used()
        self.assertEqual(basin.pours(), [("p", "a", 10), ("q", "a", 7), ("r", "c", 4)])
        self.told_true(basin.stand() == Stand(NET, {"a": 17, "c": 4}, {"a": 1}))
        self.assertEqual(basin.waters(), {"a": 12, "b": 4, "c": 4, "d": 0})
        self.assertEqual(len(basin), 3)

    def test_pours_by_name_and_sorted(self):
        basin = Basin(NET)
        basin.pour(amount=GREAT, pond="b", name="zz")
        basin.pour("z", "c", 0)
        basin.pour("main", "a", 1)
        basin.pour("a", "d", 2)
        self.assertEqual(basin.pours(), [("a", "d", 2), ("main", "a", 1), ("z", "c", 0), ("zz", "b", GREAT)])

    def test_a_pour_of_nothing_is_one(self):
        basin = Basin(NET)
        basin.pour("p", "a", 0)
        self.assertEqual((basin.pours(), len(basin)), ([("p", "a", 0)], 1))
        self.refused_unchanged(Taken, basin, "pour", "p", "a", 0, name="p")
        self.refused_unchanged(Wet, with_pour_at("d"), "fill", "d", name="d")

    def test_taken_back(self):
        basin = used()
        basin.back("q")
        self.assertEqual(basin.pours(), [("p", "a", 10), ("r", "c", 4)])
        # The count stays, the water is reckoned anew.
        self.assertEqual(basin.counts(), {"a": 1, "b": 0, "c": 0, "d": 0})
        self.assertEqual(basin.waters(), {"a": 5, "b": 4, "c": 4, "d": 0})
        basin.back(name="p")
        self.assertEqual(basin.waters()["a"], -5)

    def test_a_name_may_come_again(self):
        basin = used()
        basin.back("q")
        basin.pour("q", "d", 3)
        self.assertEqual(basin.pours(), [("p", "a", 10), ("q", "d", 3), ("r", "c", 4)])
        basin.back("q")
        self.refused_unchanged(NoPour, basin, "back", "q", name="q")

    def test_sixty_and_one_more(self):
        basin = Basin(NET)
        for at, name in enumerate(sixty_names()):
            self.assertEqual(len(basin), at)
            basin.pour(name, "a", GREAT)
        self.assertEqual(len(basin), 60)
        self.assertEqual(basin.stand().poured("a"), 60 * GREAT)
        self.refused_unchanged(TooMany, basin, "pour", "x", "a", 0, kind="pours")
        self.refused_unchanged(Taken, basin, "pour", "aa", "a", 0, name="aa")
        basin.back("aa")
        basin.pour("x", "a", 0)
        self.refused_unchanged(TooMany, basin, "pour", "aa", "a", 1, kind="pours")

    def test_a_pour_that_is_refused(self):
        basin = used()
        for at, thing in enumerate([*NO_NAMES, *NO_KEYS]):
            with self.subTest(at=at):
                self.refused_unchanged(BadName, basin, "pour", thing, "a", 1, name=thing)
                self.refused_unchanged(NoPond, basin, "pour", "x", thing, 1, name=thing)
        self.refused_unchanged(NoPond, basin, "pour", "x", "x", 1, name="x")
        for at, thing in enumerate(NO_COUNTS):
            with self.subTest(at=at):
                self.refused_unchanged(BadAmount, basin, "pour", "x", "a", thing)
        self.refused_unchanged(Taken, basin, "pour", "p", "b", 1, name="p")

    def test_a_pours_refusals_in_order(self):
        basin = Basin(NET)
        for name in sixty_names():
            basin.pour(name, "a", 1)
        for amount in (-1, None, True, "1", [], {}):
            for pond in ("x", None, True, [], {}):
                for name in (None, True, "", "A", [], {}):
                    self.refused_unchanged(BadName, basin, "pour", name, pond, amount, name=name)
                for name in ("aa", "x"):
                    self.refused_unchanged(NoPond, basin, "pour", name, pond, amount, name=pond)
            for name in ("aa", "x"):
                self.refused_unchanged(BadAmount, basin, "pour", name, "a", amount)
        self.refused_unchanged(Taken, basin, "pour", "aa", "a", 1, name="aa")

    def test_back_that_is_refused(self):
        basin = used()
        for at, thing in enumerate([*NO_NAMES, *NO_KEYS]):
            with self.subTest(at=at):
                self.refused_unchanged(BadName, basin, "back", thing, name=thing)
        for name in ("x", "a", "pp"):
            self.refused_unchanged(NoPour, basin, "back", name, name=name)


class NetDeedTest(BasinTestCase):
    def test_dig(self):
        basin = used()
        basin.dig("e")
        basin.dig(pond="f", brim=60)
        basin.dig("rest", brim=1)
        self.told_true(basin.net() == Net({**BRIMS, "e": 4, "f": 60, "rest": 1}, PIPES))
        self.assertEqual(basin.counts(), {"a": 1, "b": 0, "c": 0, "d": 0, "e": 0, "f": 0, "rest": 0})
        self.assertEqual(basin.pours(), used().pours())
        with self.assertRaises(TypeError):
            basin.dig("g", 4)

    def test_dig_that_is_refused(self):
        basin = used()
        self.refused_unchanged(Taken, basin, "dig", "a", name="a")
        self.refused_unchanged(Taken, basin, "dig", "a", named={"brim": 0}, name="a")
        for at, thing in enumerate([*NO_NAMES, *NO_KEYS]):
            with self.subTest(at=at):
                self.refused_unchanged(BadName, basin, "dig", thing, name=thing)
                self.refused_unchanged(BadName, basin, "dig", thing, named={"brim": None}, name=thing)
        for at, thing in enumerate(NO_MEASURES):
            with self.subTest(at=at):
                self.refused_unchanged(BadBrim, basin, "dig", "e", named={"brim": thing}, name="e")

    def test_twelve_ponds_and_one_more(self):
        basin = Basin()
        for name in TWELVE:
            basin.dig(name)
        self.told_true(basin.net() == Net(dict.fromkeys(TWELVE, 4)))
        self.refused_unchanged(TooMany, basin, "dig", "m", kind="ponds")
        self.refused_unchanged(TooMany, basin, "dig", "m", named={"brim": 0}, kind="ponds")
        self.refused_unchanged(Taken, basin, "dig", "l", name="l")
        self.refused_unchanged(BadName, basin, "dig", "M", name="M")
        basin.fill("c")
        basin.dig("m")
        self.told_true(basin.net() == Net(dict.fromkeys(THIRTEEN.replace("c", ""), 4)))

    def test_fill(self):
        basin = used()
        basin.fill("d")
        self.told_true(basin.net() == Net({name: BRIMS[name] for name in "abc"}, PIPES))
        self.assertEqual(basin.counts(), {"a": 1, "b": 0, "c": 0})
        self.assertEqual(basin.pours(), used().pours())

    def test_a_count_is_forgotten_with_its_pond(self):
        basin = with_pour_at("d", 20)
        basin.spill("d", 2)
        basin.back("p")
        self.assertEqual((basin.counts()["d"], basin.waters()["d"]), (2, -18))
        basin.fill(pond="d")
        basin.dig("d", brim=9)
        self.told_true(basin == Basin(NET))
        self.assertEqual((basin.counts()["d"], basin.waters()["d"]), (0, 0))

    def test_fill_that_is_refused(self):
        basin = used()
        for at, thing in enumerate(["x", *NO_NAMES, *NO_KEYS]):
            with self.subTest(at=at):
                self.refused_unchanged(NoPond, basin, "fill", thing, name=thing)
        # a and c are wet, too; a pipe leads from a, and only to c.
        for name in "abc":
            self.refused_unchanged(Joined, basin, "fill", name, name=name)
        basin.cut("b", "c")
        self.refused_unchanged(Wet, basin, "fill", "c", name="c")
        basin.back("r")
        basin.fill("c")
        self.assertEqual(basin.net().ponds(), ["a", "b", "d"])

    def test_brim(self):
        basin = used()
        basin.brim("d", 60)
        basin.brim(brim=5, pond="c")
        self.told_true(basin.net() == Net({**BRIMS, "d": 60, "c": 5}, PIPES))
        basin.brim("a", 7)
        self.assertEqual((basin.counts(), basin.waters()["a"]), (used().counts(), 17 - 7))

    def test_a_brim_that_is_told_again_as_it_was(self):
        basin = used()
        basin.brim("a", 5)
        basin.pipe("a", "b", width=4)
        self.told_true(basin == used())

    def test_brim_that_is_refused(self):
        basin = used()
        for at, thing in enumerate(["x", *NO_NAMES, *NO_KEYS]):
            with self.subTest(at=at):
                self.refused_unchanged(NoPond, basin, "brim", thing, 0, name=thing)
        for at, thing in enumerate(NO_MEASURES):
            with self.subTest(at=at):
                self.refused_unchanged(BadBrim, basin, "brim", "b", thing, name="b")
        self.refused_unchanged(TooWide, basin, "brim", "b", 3, name="b", side="out")
        self.refused_unchanged(TooWide, basin, "brim", "a", 2, name="a", side="out")
        basin.pipe("c", "d", width=3)
        self.refused_unchanged(TooWide, basin, "brim", "d", 2, name="d", side="in")
        basin.cut("c", "d")
        basin.cut("b", "c")
        basin.brim("b", 4)
        self.refused_unchanged(TooWide, basin, "brim", "b", 3, name="b", side="in")
        basin.pipe("b", "a", width=4)
        self.refused_unchanged(Closed, basin, "brim", "a", 4, names=["a", "b"])

    def test_pipe(self):
        basin = used()
        basin.pipe("d", "a")
        basin.pipe(width=2, other="c", one="d")
        self.told_true(basin.net() == Net(BRIMS, {**PIPES, ("d", "a"): 1, ("d", "c"): 2}))
        self.assertEqual(basin.counts(), used().counts())
        with self.assertRaises(TypeError):
            basin.pipe("c", "d", 2)

    def test_an_elder_pipe_has_the_width_then(self):
        basin = used()
        basin.pipe("a", "b")
        self.told_true(basin.net() == Net(BRIMS, {**PIPES, ("a", "b"): 1}))
        # a has spilled once, and that counts with the width that is there now.
        self.assertEqual((basin.counts(), basin.waters()["b"]), (used().counts(), 1))

    def test_pipe_that_is_refused(self):
        basin = used()
        for at, thing in enumerate(["x", *NO_NAMES, *NO_KEYS]):
            with self.subTest(at=at):
                self.refused_unchanged(NoPond, basin, "pipe", thing, None, named={"width": 0}, name=thing)
                self.refused_unchanged(NoPond, basin, "pipe", "a", thing, named={"width": 0}, name=thing)
        for at, thing in enumerate(NO_MEASURES):
            with self.subTest(at=at):
                self.refused_unchanged(BadPipe, basin, "pipe", "d", "a", named={"width": thing}, pair=("d", "a"))
                self.refused_unchanged(BadPipe, basin, "pipe", "a", "b", named={"width": thing}, pair=("a", "b"))
        self.refused_unchanged(BadPipe, basin, "pipe", "a", "a", pair=("a", "a"))
        self.refused_unchanged(TooWide, basin, "pipe", "a", "c", named={"width": 2}, name="a", side="out")
        self.refused_unchanged(TooWide, basin, "pipe", "d", "a", named={"width": 3}, name="a", side="in")
        self.refused_unchanged(TooWide, basin, "pipe", "a", "b", named={"width": 6}, name="a", side="out")
        basin.cut("b", "c")
        basin.brim("b", 5)
        basin.pipe("a", "b", width=5)
        self.refused_unchanged(Closed, basin, "pipe", "b", "a", named={"width": 5}, names=["a", "b"])

    def test_cut(self):
        basin = used()
        basin.cut("a", "b")
        self.told_true(basin.net() == Net(BRIMS, {("b", "a"): 3, ("b", "c"): 1}))
        self.assertEqual((basin.counts(), basin.waters()["b"]), (used().counts(), 0))
        basin.cut(other="a", one="b")
        self.told_true(basin.net() == Net(BRIMS, {("b", "c"): 1}))

    def test_cut_that_is_refused(self):
        basin = used()
        for at, thing in enumerate(["x", *NO_NAMES, *NO_KEYS]):
            with self.subTest(at=at):
                self.refused_unchanged(NoPond, basin, "cut", thing, None, name=thing)
                self.refused_unchanged(NoPond, basin, "cut", "a", thing, name=thing)
        for pair in (("c", "b"), ("a", "a"), ("d", "a")):
            self.refused_unchanged(NoPipe, basin, "cut", *pair, pair=pair)


class BecomeTest(BasinTestCase):
    def test_some_ponds_stay_some_go_some_are_new(self):
        basin = used()
        net = Net({"z": 3, "a": 9, "c": 2}, {("z", "a"): 3})
        basin.become(net, [("s", "z", 5), ("p", "a", 1)])
        self.told_true(basin.net() == net)
        self.assertEqual(basin.pours(), [("p", "a", 1), ("s", "z", 5)])
        self.assertEqual(basin.counts(), {"a": 1, "c": 0, "z": 0})
        self.assertEqual(basin.waters(), {"a": -8, "c": 0, "z": 5})

    def test_a_pond_that_went_comes_back_without_its_count(self):
        basin = used()
        basin.become(Net({"z": 3}), ())
        self.assertEqual(basin.counts(), {"z": 0})
        basin.become(pours=(("p", "a", 3),), net=NET)
        self.assertEqual(basin.counts(), dict.fromkeys("abcd", 0))
        self.assertEqual(basin.pours(), [("p", "a", 3)])

    def test_of_no_ponds(self):
        basin = used()
        basin.become(Net({}), [])
        self.told_true(basin == Basin())
        self.refused_unchanged(NoPond, basin, "become", Net({}), [("p", "a", 1)], name="a")

    def test_to_what_it_is(self):
        basin = used()
        basin.become(basin.net(), basin.pours())
        self.told_true(basin == used())

    def test_sixty_and_sixty_one(self):
        basin = used()
        pours = [(name, "a", GREAT) for name in sixty_names()]
        self.refused_unchanged(TooMany, basin, "become", NET, [*pours, ("x", "a", 1)], kind="pours")
        self.refused_unchanged(Taken, basin, "become", NET, [*pours, ("aa", "a", 1)], name="aa")
        self.refused_unchanged(BadAmount, basin, "become", NET, [*pours, ("x", "a", -1)])
        basin.become(NET, pours)
        self.assertEqual(basin.pours(), sorted(pours))

    def test_no_list_of_pours(self):
        basin = used()
        for at, thing in enumerate(NO_POURS):
            with self.subTest(at=at):
                self.refused_unchanged(BadPour, basin, "become", NET, thing)
                self.refused_unchanged(BadPour, basin, "become", named={"net": Net({}), "pours": thing})

    def test_no_list_of_pours_is_told_ahead_of_all(self):
        basin = used()
        for wrong in ((None, "a", 1), ("p", "x", 1), ("p", "a", -1)):
            for thing in (None, ("x", "a"), ["x", "a", 1], ("x", "a", 1, 1), 7, "xyz", {}, ()):
                self.refused_unchanged(BadPour, basin, "become", NET, [wrong, thing])
                self.refused_unchanged(BadPour, basin, "become", NET, (thing, wrong))

    def test_each_refused_as_pour_refuses_it(self):
        basin = used()
        good = ("x", "a", 1)
        for at, thing in enumerate([*NO_NAMES, *NO_KEYS]):
            with self.subTest(at=at):
                self.refused_unchanged(BadName, basin, "become", NET, [good, (thing, None, -1)], name=thing)
                self.refused_unchanged(NoPond, basin, "become", NET, [good, ("x", thing, -1)], name=thing)
        for at, thing in enumerate(NO_COUNTS):
            with self.subTest(at=at):
                self.refused_unchanged(BadAmount, basin, "become", NET, [good, ("x", "a", thing)])
        self.refused_unchanged(Taken, basin, "become", NET, [good, ("y", "b", 1), ("x", "b", 2)], name="x")

    def test_in_their_order_and_behind_those_ahead(self):
        basin = used()
        self.refused_unchanged(NoPond, basin, "become", NET, [("x", "z", 1), (None, "a", 1)], name="z")
        self.refused_unchanged(BadName, basin, "become", NET, [(None, "a", 1), ("x", "z", 1)], name=None)
        self.refused_unchanged(Taken, basin, "become", NET, [("x", "a", 1), ("x", "a", 1), ("y", "a", -1)], name="x")

    def test_in_that_net(self):
        basin = used()
        self.refused_unchanged(NoPond, basin, "become", Net({"z": 4}), [("p", "z", 1), ("q", "a", 1)], name="a")
        basin.become(Net({"z": 4}), [("p", "z", 1)])

    def test_elder_pours_take_no_name_and_no_room(self):
        basin = Basin(NET)
        for name in sixty_names():
            basin.pour(name, "a", 1)
        basin.become(NET, [("aa", "b", 3), ("x", "a", 1)])
        self.assertEqual(basin.pours(), [("aa", "b", 3), ("x", "a", 1)])


class CountTest(BasinTestCase):
    def test_spill(self):
        basin = used()
        self.assertEqual(basin.counts(), {"a": 1, "b": 0, "c": 0, "d": 0})
        basin.spill("a", 2)
        basin.spill(times=1, pond="c")
        self.assertEqual(basin.counts(), {"a": 3, "b": 0, "c": 1, "d": 0})
        self.assertEqual(basin.waters(), {"a": 2, "b": 12, "c": 1, "d": 0})

    def test_spill_that_is_refused(self):
        basin = used()
        for at, thing in enumerate(["x", *NO_NAMES, *NO_KEYS]):
            with self.subTest(at=at):
                self.refused_unchanged(NoPond, basin, "spill", thing, 0, name=thing)
        for at, thing in enumerate(NO_TIMES):
            with self.subTest(at=at):
                self.refused_unchanged(BadTimes, basin, "spill", "d", thing)
        self.refused_unchanged(CantSpill, basin, "spill", "a", 3, name="a", most=2)
        self.refused_unchanged(CantSpill, basin, "spill", "d", name="d", most=0)

    def test_unspill(self):
        basin = used()
        basin.rest()
        basin.become(NET, [])
        ahead = basin.counts()
        basin.unspill(["a", "b"])
        basin.unspill(times=1, lot=("b", "a"))
        self.assertEqual(basin.counts(), {**ahead, "a": ahead["a"] - 2, "b": ahead["b"] - 2})

    def test_unspill_that_is_refused(self):
        basin = used()
        self.refused_unchanged(NotAtRest, basin, "unspill", None, None, name="a")
        basin.rest()
        for at, thing in enumerate(NO_LOTS):
            with self.subTest(at=at):
                self.refused_unchanged(BadLot, basin, "unspill", thing, 0)
        for at, thing in enumerate(NO_TIMES):
            with self.subTest(at=at):
                self.refused_unchanged(BadTimes, basin, "unspill", ["d"], thing)
        self.refused_unchanged(CantUnspill, basin, "unspill", ["d"], most=0)
        basin.become(Net(BRIMS), [])
        for name in "abc":
            most = basin.counts()[name]
            self.assertGreater(most, 0)
            self.refused_unchanged(CantUnspill, basin, "unspill", [name], GREAT, most=most)
            self.refused_unchanged(CantUnspill, basin, "unspill", (name,), most + 1, most=most)

    def test_rest_tells_how_much_more_the_counts_are(self):
        basin = used()
        ahead = basin.stand()
        self.assertEqual(basin.rest(), {name: rested(ahead).count(name) - ahead.count(name) for name in "abcd"})
        self.told_true(basin.stand() == rested(ahead))
        self.assertEqual(basin.rest(), dict.fromkeys("abcd", 0))

    def test_settle_tells_what_is_below_nought_too(self):
        basin = Basin(Net({"a": 4, "b": 4, "c": 4}))
        basin.pour("p", "a", 9)
        basin.pour("q", "b", 40)
        basin.spill("a", 2)
        basin.back("p")
        self.assertEqual(basin.settle(), {"a": -2, "b": 10, "c": 0})
        self.assertEqual(basin.counts(), {"a": 0, "b": 10, "c": 0})
        self.assertEqual(basin.settle(), {"a": 0, "b": 0, "c": 0})

    def test_rest_does_not_settle(self):
        basin = used()
        basin.rest()
        basin.back("p")
        ahead = basin.counts()
        self.assertEqual(basin.rest(), dict.fromkeys("abcd", 0))
        self.assertEqual(basin.counts(), ahead)
        self.assertNotEqual(basin.settle(), dict.fromkeys("abcd", 0))
        self.told_true(basin.stand() == settled(Stand(NET, {"a": 7, "c": 4})))

    def test_counts_stay_at_all_deeds_of_pours_and_of_the_net(self):
        basin = used()
        basin.rest()
        counts = basin.counts()
        for deed in (("pour", "x", "a", 50), ("back", "p"), ("back", "q"), ("brim", "a", 60), ("brim", "b", 60),
                     ("pipe", "d", "a", 9), ("pipe", "a", "b", 60), ("cut", "b", "c"), ("brim", "d", 10),
                     ("become", NET, [("y", "c", 1)]), ("become", Net({**BRIMS, "b": 5}), [])):
            do_on_basin(basin, deed)
            self.assertEqual(basin.counts(), counts)
            poured = {name: sum(amount for x, pond, amount in basin.pours() if pond == name) for name in "abcd"}
            self.assertEqual(basin.waters(), waters_of(basin.net(), poured, counts))
        basin.dig("e")
        self.assertEqual(basin.counts(), {**counts, "e": 0})
        basin.fill("e")
        self.assertEqual(basin.counts(), counts)


class OwnTest(BasinTestCase):
    def test_what_came_back_has_no_later_bearing(self):
        basin = used()
        ahead = kept(basin)
        basin.pours().clear()
        basin.pours().append(("x", "a", 1))
        basin.counts().clear()
        basin.counts()["a"] = 7
        basin.waters().clear()
        basin.stand().counts()["a"] = 9
        basin.stand().pours().clear()
        basin.net().brims().clear()
        basin.net().pipes().clear()
        self.assertEqual(kept(basin), ahead)
        for ask in (basin.rest, basin.settle):
            told = ask()
            counts = basin.counts()
            told["a"] += 5
            told.clear()
            self.assertEqual(basin.counts(), counts)

    def test_what_came_back_stays_as_it_was(self):
        basin = used()
        ahead = kept(basin)
        again = kept(used())
        basin.back("p")
        basin.dig("e")
        basin.settle()
        self.assertEqual(ahead, again)

    def test_what_is_handed_in_stays_as_it_was(self):
        basin, net, lot = used(), Net(BRIMS, PIPES), ["b", "a"]
        pours = [("y", "b", 2), ("x", "a", 1)]
        basin.become(net, pours)
        basin.brim("a", 7)
        basin.pour("z", "a", 90)
        basin.back("x")
        basin.rest()
        basin.back("z")
        basin.unspill(lot)
        self.assertEqual((pours, lot), ([("y", "b", 2), ("x", "a", 1)], ["b", "a"]))
        self.told_true(net == NET)

    def test_later_changes_of_what_was_handed_in_have_no_bearing(self):
        basin, pours = used(), [("y", "b", 2), ("x", "a", 1)]
        basin.become(NET, pours)
        pours.clear()
        pours.append(("q", "a", 1))
        self.assertEqual(basin.pours(), [("x", "a", 1), ("y", "b", 2)])
        basin.settle()
        basin.become(NET, [])

    def test_no_basin_knows_of_another_one(self):
        net = Net(BRIMS, PIPES)
        one, other = Basin(net), Basin(net)
        one.pour("p", "a", 50)
        one.settle()
        one.dig("e")
        self.told_true(other == Basin(NET))
        other.pour("p", "b", 1)
        self.assertEqual(one.pours(), [("p", "a", 50)])
        other.become(one.net(), one.pours())
        other.back("p")
        self.assertEqual(one.pours(), [("p", "a", 50)])
        empty = Basin()
        empty.dig("a")
        self.assertEqual(len(Basin().net()), 0)

    def test_a_copy_goes_its_own_way(self):
        for deed in (("pour", "x", "a", 5), ("back", "p"), ("dig", "e", 4), ("fill", "d"), ("brim", "a", 9),
                     ("pipe", "d", "a", 1), ("cut", "a", "b"), ("become", Net({}), []), ("spill", "a"), ("rest",),
                     ("settle",)):
            basin = used()
            twin = basin.copied()
            self.told_true(twin == basin)
            self.assertIs(twin.__class__, Basin)
            do_on_basin(twin, deed)
            self.told_true(basin == used())
            self.told_false(twin == basin)
            twin = basin.copied()
            do_on_basin(basin, deed)
            self.told_true(twin == used())

    def test_asked_again_answered_alike(self):
        basin = used()
        self.assertEqual(kept(basin), kept(basin))
        self.told_true(basin.copied() == basin.copied())


class DrawnTest(BasinTestCase):
    def check_alike(self, basin, model):
        """All that can be seen of a basin is what the model has."""
        self.assertEqual((basin.net().brims(), basin.net().pipes()), (model.brims, model.pipes))
        self.assertEqual(basin.pours(), model.pour_list())
        self.assertEqual((basin.counts(), basin.waters(), len(basin)), (model.counts, model.waters(), len(model.pours)))
        stand = basin.stand()
        self.assertEqual((stand.pours(), stand.counts()), (model.poured(), model.counts))
        self.told_true(stand.net() == basin.net())

    def do_both(self, basin, model, deed):
        """The deed done on both; whether it was done."""
        try:
            told = model.do(deed)
        except Refusal as refusal:
            with self.assertRaises(WaterError) as caught:
                do_on_basin(basin, deed)
            self.assertEqual((caught.exception.__class__.__name__, vars(caught.exception)), (refusal.error, refusal.fields))
            return False
        self.assertEqual(do_on_basin(basin, deed), told)
        return True

    def drawn(self, chance, model):
        """A deed, a become now and then."""
        if chance.randrange(40):
            return drawn_deed(chance, model)
        names = chance.sample(PONDS, chance.randint(0, 4))
        pours = [
            (drawn_name(chance, POURS), drawn_name(chance, names or PONDS), drawn_number(chance, 0, 2, 9))
            for _ in range(chance.randrange(4))
        ]
        return "become", drawn_net(chance, names, [1, 2, 3, 4, 5], chance.choice([3, 6, 9])), chance.choice([pours, tuple(pours)])

    def test_long_rows_of_deeds(self):
        seen = {}
        for seed in range(25):
            chance = random.Random(seed)
            basin, model = Basin(), Model()
            for _ in range(250):
                deed = self.drawn(chance, model)
                done = self.do_both(basin, model, deed)
                self.check_alike(basin, model)
                seen[deed[0], done] = seen.get((deed[0], done), 0) + 1
        words = "pour back dig fill brim pipe cut spill unspill become".split()
        self.assertEqual({(word, done) for word in words for done in (True, False)} - set(seen), set())
        self.assertGreater(min(seen.values()), 40)

    def test_whatever_was_done_ahead_settled_is_as_from_the_beginning(self):
        more = less = 0
        for seed in range(60):
            chance = random.Random(1000 + seed)
            basin, model = Basin(), Model()
            for _ in range(80):
                self.do_both(basin, model, self.drawn(chance, model))
            fresh = Basin(basin.net())
            for name, pond, amount in reversed(basin.pours()):
                fresh.pour(name, pond, amount)
            fresh.rest()
            ahead, told = basin.counts(), basin.settle()
            self.told_true(basin == fresh)
            self.assertEqual(told, {name: fresh.counts()[name] - ahead[name] for name in ahead})
            more += max(told.values(), default=0) > 0
            less += min(told.values(), default=0) < 0
        self.assertGreater(min(more, less), 10)


class LargeTest(BasinTestCase):
    def timed(self, ask, *given, **named):
        began = time.perf_counter()
        told = ask(*given, **named)
        self.assertLess(time.perf_counter() - began, SECONDS)
        return told

    def check_settled(self, basin):
        net, stand = basin.net(), basin.stand()
        poured = {pond: 0 for pond in net.ponds()}
        for name, pond, amount in basin.pours():
            poured[pond] += amount
        self.assertEqual((stand.pours(), stand.counts()), (poured, basin.counts()))
        self.assertEqual(full_ponds(net, poured, basin.counts()), [])
        self.assertEqual(unneeded(net, poured, basin.counts(), {}), [])

    def test_sixty_pours_of_forty_figures_poured_and_taken_back(self):
        chance = random.Random(60)
        for net in large_nets():
            basin = Basin(net)
            for name in sixty_names():
                self.timed(basin.pour, name, chance.choice(TWELVE), GREAT - chance.randrange(GREAT // 2))
            ahead = basin.counts()
            told = self.timed(basin.rest)
            self.assertEqual(told, {name: basin.counts()[name] - ahead[name] for name in TWELVE})
            self.check_settled(basin)
            for name in sixty_names()[::2]:
                basin.back(name)
            ahead = basin.counts()
            self.assertTrue(no_more(ahead, {name: basin.counts()[name] + self.timed(basin.rest)[name] for name in TWELVE}))
            told = self.timed(basin.settle)
            self.assertEqual(told, {name: basin.counts()[name] - ahead[name] for name in TWELVE})
            self.check_settled(basin)
            self.assertGreater(-sum(told.values()), GREAT // 100)

    def test_the_net_changed_under_great_counts(self):
        net = ring(60, 1)
        basin = Basin(net)
        basin.pour("p", "a", GREAT)
        basin.settle()
        for deed in (("pipe", "l", "a", 58), ("cut", "c", "d"), ("brim", "f", 60), ("pipe", "c", "d", 59),
                     ("pour", "q", "g", GREAT), ("back", "p"), ("cut", "l", "a"), ("fill", "l"), ("cut", "k", "l"),
                     ("fill", "l"), ("dig", "m", 60), ("pipe", "k", "m", 60), ("pipe", "m", "a", 59)):
            try:
                self.timed(do_on_basin, basin, deed)
            except Joined:
                self.assertEqual(deed, ("fill", "l"))
            self.timed(basin.settle)
            self.check_settled(basin)

    def test_spilled_and_unspilled_by_forty_figures(self):
        basin = Basin(ring(60, 1))
        basin.pour("p", "a", GREAT)
        self.timed(basin.spill, "a", GREAT // 60)
        self.assertEqual(basin.waters()["a"], GREAT - GREAT // 60 * 60)
        self.timed(basin.settle)
        ahead = basin.counts()
        basin.back("p")
        self.timed(basin.unspill, list(TWELVE), GREAT // 2)
        self.assertEqual(basin.counts(), {name: ahead[name] - GREAT // 2 for name in TWELVE})
        self.refused_unchanged(BadTimes, basin, "unspill", list(TWELVE), -GREAT)
        self.refused_unchanged(CantUnspill, basin, "unspill", list(TWELVE), 2 * GREAT, most=min(basin.counts().values()))
        self.timed(basin.settle)
        self.assertEqual(basin.counts(), dict.fromkeys(TWELVE, 0))


if __name__ == "__main__":
    unittest.main()
