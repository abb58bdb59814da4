"""Points 2, 6, 7, 18 and the interface's outlets."""

import itertools
import random
import unittest

from backwater.errors import (
    BadBrim, BadName, BadPipe, Closed, Joined, NetError, NoPipe, NoPond, Taken, TooMany, TooWide,
)
from backwater.nets import Net
from backwater.outlets import way_out, with_brim, with_pipe, with_pond, without_pipe, without_pond
from tests.things import NO_KEYS, NO_MEASURES, NO_NAMES, TWELVE, ThingsTestCase

BRIMS = {"c": 5, "a": 9, "b": 4}
PIPES = {("b", "a"): 3, ("c", "a"): 2, ("a", "c"): 4, ("c", "b"): 1}
NO_PONDS = ["x", "aa", *NO_NAMES, *NO_KEYS]


class WayOutTest(ThingsTestCase):
    def test_a_pond_that_soaks_is_its_own_way_out(self):
        self.assertEqual(way_out(Net({"a": 1}), "a"), ["a"])
        self.assertEqual(way_out(Net({"a": 2, "b": 9}, {("a", "b"): 1}), "a"), ["a"])

    def test_along_pipes(self):
        net = Net({"a": 2, "b": 3, "c": 4}, {("a", "b"): 2, ("b", "c"): 3})
        self.assertEqual(way_out(net, "a"), ["a", "b", "c"])
        self.assertEqual(way_out(net, "b"), ["b", "c"])
        self.assertEqual(way_out(net, "c"), ["c"])

    def test_the_shorter_way_goes_ahead_of_the_sorted_one(self):
        net = Net({"m": 2, "a": 2, "b": 9, "z": 9}, {("m", "a"): 1, ("a", "b"): 2, ("m", "z"): 1})
        self.assertEqual(way_out(net, "m"), ["m", "z"])

    def test_of_equally_short_ones_the_first_sorted(self):
        net = Net({"m": 2, "z": 9, "b": 9}, {("m", "z"): 1, ("m", "b"): 1})
        self.assertEqual(way_out(net, "m"), ["m", "b"])

    def test_the_first_sorted_differs_by_its_first_other_pond(self):
        brims = {"m": 2, "b": 2, "c": 2, "y": 9, "d": 9}
        pipes = {("m", "b"): 1, ("m", "c"): 1, ("b", "y"): 2, ("c", "d"): 2}
        self.assertEqual(way_out(Net(brims, pipes), "m"), ["m", "b", "y"])

    def test_a_wider_pipe_has_no_bearing(self):
        net = Net({"m": 5, "z": 9, "b": 9}, {("m", "z"): 4, ("m", "b"): 1})
        self.assertEqual(way_out(net, "m"), ["m", "b"])

    def test_pipes_in_both_directions(self):
        net = Net({"a": 2, "b": 3}, {("a", "b"): 2, ("b", "a"): 2})
        self.assertEqual((way_out(net, "a"), way_out(net, "b")), (["a", "b"], ["b"]))

    def test_twelve_ponds_long(self):
        pipes = {(one, other): 2 for one, other in zip(TWELVE, TWELVE[1:])}
        self.assertEqual(way_out(Net(dict.fromkeys(TWELVE, 2), pipes), "a"), list(TWELVE))

    def test_by_name_and_owned_by_whoever_asked(self):
        net = Net({"a": 2, "b": 3}, {("a", "b"): 2})
        told = way_out(name="a", net=net)
        self.assertIs(told.__class__, list)
        told.clear()
        self.assertEqual(way_out(net, "a"), ["a", "b"])

    def test_no_pond(self):
        net = Net(BRIMS, PIPES)
        for at, thing in enumerate(NO_PONDS):
            with self.subTest(at=at):
                self.refused(NoPond, way_out, net, thing, name=thing)
        self.refused(NoPond, way_out, Net({}), "a", name="a")

    def test_against_all_ways_there_are(self):
        chance = random.Random(7)
        tried = longest = 0
        while tried < 400:
            net = chance_net(chance)
            if net is None:
                continue
            tried += 1
            for name in net.ponds():
                told = way_out(net, name)
                self.assertEqual(told, slow_way_out(net, name))
                longest = max(longest, len(told))
        self.assertGreater(longest, 3)


def chance_net(chance):
    """A net whose ponds mostly soak nothing, or None where what came of it is no net."""
    ponds = chance.sample("abcdefg", chance.randrange(2, 7))
    pairs = [(one, other) for one in ponds for other in ponds if one != other and chance.random() < 0.35]
    pipes = {pair: chance.randrange(1, 4) for pair in pairs}
    brims = {name: max(1, sum(pipes[pair] for pair in pairs if pair[0] == name)) for name in ponds}
    try:
        return Net(brims, pipes)
    except NetError:
        return None


def slow_way_out(net, name):
    """The least, by length and then sorted, of all rows of unlike ponds that are a way out."""
    others = [other for other in net.ponds() if other != name]
    for size in range(len(others) + 1):
        ways = [
            [name, *rest] for rest in itertools.permutations(others, size)
            if net.soaks([name, *rest][-1]) > 0
            and all(net.width(one, other) > 0 for one, other in zip([name, *rest], rest))
        ]
        if ways:
            return min(ways)
    return None


class ChangedTest(ThingsTestCase):
    def setUp(self):
        self.net = Net(BRIMS, PIPES)

    def tearDown(self):
        self.assertEqual((self.net.brims(), self.net.pipes()), (BRIMS, PIPES))

    def test_with_brim(self):
        told = with_brim(self.net, "b", 60)
        self.told_true(told == Net({**BRIMS, "b": 60}, PIPES))
        self.told_true(with_brim(brim=4, name="b", net=self.net) == self.net)
        self.assertEqual(with_brim(self.net, "c", 3 + 2).brim("c"), 5)

    def test_with_brim_just_as_wide_as_its_pipes_and_one_less(self):
        self.assertEqual(with_brim(self.net, "b", 3).soaks("b"), 0)
        self.refused(TooWide, with_brim, self.net, "b", 2, name="b", side="out")
        self.refused(TooWide, with_brim, self.net, "c", 3, name="c", side="in")

    def test_with_brim_closed(self):
        net = Net({"a": 3, "b": 2}, {("a", "b"): 2, ("b", "a"): 2})
        self.refused(Closed, with_brim, net, "a", 2, names=["a", "b"])

    def test_with_brim_refused(self):
        for at, thing in enumerate(NO_PONDS):
            with self.subTest(at=at):
                self.refused(NoPond, with_brim, self.net, thing, 0, name=thing)
        for at, thing in enumerate(NO_MEASURES):
            with self.subTest(at=at):
                self.refused(BadBrim, with_brim, self.net, "c", thing, name="c")

    def test_with_pipe(self):
        told = with_pipe(self.net, "a", "b", width=3)
        self.told_true(told == Net(BRIMS, {**PIPES, ("a", "b"): 3}))
        self.told_true(with_pipe(self.net, "a", "b") == Net(BRIMS, {**PIPES, ("a", "b"): 1}))
        self.told_true(with_pipe(width=2, other="b", one="a", net=self.net).width("a", "b") == 2)

    def test_with_pipe_in_the_place_of_an_elder_one(self):
        self.told_true(with_pipe(self.net, "a", "c", width=2) == Net(BRIMS, {**PIPES, ("a", "c"): 2}))
        self.told_true(with_pipe(self.net, "a", "c") == Net(BRIMS, {**PIPES, ("a", "c"): 1}))

    def test_with_pipe_just_at_the_brim_and_one_above(self):
        net = Net({"a": 5, "b": 60, "c": 5})
        self.assertEqual(with_pipe(net, "a", "b", width=5).soaks("a"), 0)
        self.refused(TooWide, with_pipe, net, "a", "b", named={"width": 6}, name="a", side="out")
        self.assertEqual(with_pipe(net, "b", "c", width=5).ins("c"), [("b", 5)])
        self.refused(TooWide, with_pipe, net, "b", "c", named={"width": 6}, name="c", side="in")
        self.refused(TooWide, with_pipe, net, "b", "c", named={"width": 60}, name="c", side="in")

    def test_with_pipe_closed(self):
        net = Net({"a": 2, "b": 2, "c": 4}, {("a", "b"): 2})
        self.refused(Closed, with_pipe, net, "b", "a", named={"width": 2}, names=["a", "b"])

    def test_with_pipe_refused(self):
        for at, thing in enumerate(NO_PONDS):
            with self.subTest(at=at):
                self.refused(NoPond, with_pipe, self.net, thing, "a", named={"width": 0}, name=thing)
                self.refused(NoPond, with_pipe, self.net, "a", thing, named={"width": 0}, name=thing)
                self.refused(NoPond, with_pipe, self.net, thing, "none", name=thing)
                self.refused(NoPond, with_pipe, self.net, "none", thing, name="none")
        for at, thing in enumerate(NO_MEASURES):
            with self.subTest(at=at):
                named = {"width": thing}
                self.refused(BadPipe, with_pipe, self.net, "a", "b", named=named, pair=("a", "b"))
                self.refused(BadPipe, with_pipe, self.net, "a", "c", named=named, pair=("a", "c"))
        self.refused(BadPipe, with_pipe, self.net, "a", "a", pair=("a", "a"))

    def test_width_and_brim_are_given_by_name_alone(self):
        with self.assertRaises(TypeError):
            with_pipe(self.net, "a", "b", 1)
        with self.assertRaises(TypeError):
            with_pond(self.net, "x", 1)

    def test_without_pipe(self):
        left = {pair: width for pair, width in PIPES.items() if pair != ("a", "c")}
        self.told_true(without_pipe(self.net, "a", "c") == Net(BRIMS, left))
        self.told_true(without_pipe(other="c", one="a", net=self.net) == Net(BRIMS, left))
        self.assertEqual(without_pipe(self.net, "c", "a").width("a", "c"), 4)

    def test_without_pipe_refused(self):
        for at, thing in enumerate(NO_PONDS):
            with self.subTest(at=at):
                self.refused(NoPond, without_pipe, self.net, thing, "a", name=thing)
                self.refused(NoPond, without_pipe, self.net, "a", thing, name=thing)
                self.refused(NoPond, without_pipe, self.net, thing, "none", name=thing)
                self.refused(NoPond, without_pipe, self.net, "none", thing, name="none")
        self.refused(NoPipe, without_pipe, self.net, "a", "b", pair=("a", "b"))
        self.refused(NoPipe, without_pipe, self.net, "a", "a", pair=("a", "a"))
        self.refused(NoPipe, without_pipe, Net(BRIMS), "a", "c", pair=("a", "c"))

    def test_with_pond(self):
        self.told_true(with_pond(self.net, "x", brim=7) == Net({**BRIMS, "x": 7}, PIPES))
        self.told_true(with_pond(self.net, "abcdefgh") == Net({**BRIMS, "abcdefgh": 4}, PIPES))
        self.told_true(with_pond(brim=60, name="aa", net=self.net) == Net({**BRIMS, "aa": 60}, PIPES))
        self.told_true(with_pond(Net({}), "a", brim=1) == Net({"a": 1}))

    def test_with_pond_refused(self):
        for at, thing in enumerate(NO_NAMES + NO_KEYS):
            with self.subTest(at=at):
                self.refused(BadName, with_pond, self.net, thing, named={"brim": 0}, name=thing)
        for at, thing in enumerate(NO_MEASURES):
            with self.subTest(at=at):
                self.refused(BadBrim, with_pond, self.net, "x", named={"brim": thing}, name="x")
                self.refused(Taken, with_pond, self.net, "a", named={"brim": thing}, name="a")
        self.refused(Taken, with_pond, self.net, "c", name="c")

    def test_with_pond_twelve_and_thirteen(self):
        eleven, twelve = Net(dict.fromkeys(TWELVE[:11], 1)), Net(dict.fromkeys(TWELVE, 1))
        self.assertEqual(len(with_pond(eleven, "l")), 12)
        self.refused(TooMany, with_pond, twelve, "m", kind="ponds")
        self.refused(TooMany, with_pond, twelve, "m", named={"brim": 0}, kind="ponds")
        self.refused(BadName, with_pond, twelve, "M", named={"brim": 0}, name="M")
        self.refused(Taken, with_pond, twelve, "l", named={"brim": 0}, name="l")

    def test_without_pond(self):
        more = Net({**BRIMS, "x": 7}, PIPES)
        self.told_true(without_pond(more, "x") == self.net)
        self.told_true(without_pond(name="x", net=more) == self.net)
        self.told_true(without_pond(Net({"a": 1}), "a") == Net({}))

    def test_without_pond_refused(self):
        for at, thing in enumerate(NO_PONDS):
            with self.subTest(at=at):
                self.refused(NoPond, without_pond, self.net, thing, name=thing)
        for name in "abc":
            self.refused(Joined, without_pond, self.net, name, name=name)
        one_pipe = Net({"a": 4, "b": 4}, {("a", "b"): 1})
        self.refused(Joined, without_pond, one_pipe, "a", name="a")
        self.refused(Joined, without_pond, one_pipe, "b", name="b")

    def test_changes_of_a_change_leave_no_trace(self):
        told = without_pond(with_pond(self.net, "x"), "x")
        told = without_pipe(with_pipe(told, "a", "b"), "a", "b")
        told = with_brim(with_brim(told, "a", 60), "a", 9)
        self.told_true(told == self.net)
        self.assertEqual(repr(told), repr(self.net))

    def test_nets_that_came_back_stay_as_they_were(self):
        first = with_pond(self.net, "x")
        with_pipe(first, "x", "a", width=2)
        with_brim(first, "x", 1)
        without_pond(first, "x")
        self.told_true(first == Net({**BRIMS, "x": 4}, PIPES))


if __name__ == "__main__":
    unittest.main()
