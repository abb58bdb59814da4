"""Points 2, 3, 5, 6 and the interface's nets."""

import random
import unittest
from collections import OrderedDict, defaultdict, namedtuple

from backwater.errors import BadBrim, BadName, BadPipe, Closed, NoNet, NoPond, TooMany, TooWide
from backwater.nets import Net, is_name
from tests.things import (
    GREAT, NO_DICTS, NO_KEYS, NO_MEASURES, NO_NAMES, THIRTEEN, TWELVE, Sly, ThingsTestCase,
)

BRIMS = {"mill": 5, "lake": 9, "tarn": 4}
PIPES = {("tarn", "lake"): 3, ("mill", "lake"): 2, ("lake", "mill"): 4, ("mill", "tarn"): 3}


class NameTest(ThingsTestCase):
    def test_one_to_eight_letters_are_a_name(self):
        for name in ["a", "z", "ab", "pond", "zzzzzzz", "abcdefgh", *"abcdefghijklmnopqrstuvwxyz"]:
            self.told_true(is_name(name))

    def test_all_else_is_none(self):
        for at, thing in enumerate(NO_NAMES + NO_KEYS):
            with self.subTest(at=at):
                self.told_false(is_name(thing))

    def test_each_other_sign_is_no_letter(self):
        for sign in [chr(code) for code in range(32, 127)] + ["\n"]:
            self.assertIs(is_name(sign), "a" <= sign <= "z")
            self.assertIs(is_name("a" + sign + "b"), "a" <= sign <= "z")

    def test_by_name(self):
        self.told_true(is_name(thing="a"))


class AskedTest(ThingsTestCase):
    def setUp(self):
        self.net = Net(BRIMS, PIPES)

    def test_ponds_are_a_sorted_list(self):
        self.assertEqual(self.net.ponds(), ["lake", "mill", "tarn"])

    def test_brims_one_by_one(self):
        self.assertEqual([self.net.brim(name) for name in ("lake", "mill", "tarn")], [9, 5, 4])
        self.assertEqual(self.net.brim(name="tarn"), 4)

    def test_soaks_is_the_brim_less_all_that_goes_out(self):
        self.assertEqual([self.net.soaks(name) for name in ("lake", "mill", "tarn")], [5, 0, 1])
        self.assertEqual(self.net.soaks(name="tarn"), 1)
        self.assertEqual(Net({"a": 7}).soaks("a"), 7)

    def test_widths_have_a_direction(self):
        self.assertEqual(self.net.width("mill", "lake"), 2)
        self.assertEqual(self.net.width("lake", "mill"), 4)
        self.assertEqual(self.net.width("tarn", "lake"), 3)
        self.assertEqual(self.net.width(other="tarn", one="mill"), 3)

    def test_width_is_nought_where_there_is_no_pipe(self):
        self.assertEqual(self.net.width("lake", "tarn"), 0)
        self.assertEqual(self.net.width("lake", "lake"), 0)

    def test_outs_and_ins_are_sorted_lists_of_tuples(self):
        self.assertEqual(self.net.outs("mill"), [("lake", 2), ("tarn", 3)])
        self.assertEqual(self.net.ins("lake"), [("mill", 2), ("tarn", 3)])
        self.assertEqual(self.net.outs("tarn"), [("lake", 3)])
        self.assertEqual(self.net.ins("tarn"), [("mill", 3)])
        self.assertEqual(self.net.outs(name="lake"), [("mill", 4)])
        self.assertEqual(self.net.ins(name="mill"), [("lake", 4)])
        alone = Net({"a": 1})
        self.assertEqual((alone.outs("a"), alone.ins("a")), ([], []))

    def test_outs_and_ins_are_sorted_by_name_first(self):
        pipes = {("m", other): width for other, width in (("z", 1), ("b", 9), ("k", 4))}
        pipes.update({(one, "m"): width for one, width in (("z", 1), ("b", 9), ("k", 4))})
        net = Net({name: 20 for name in "mzbk"}, pipes)
        self.assertEqual(net.outs("m"), [("b", 9), ("k", 4), ("z", 1)])
        self.assertEqual(net.ins("m"), [("b", 9), ("k", 4), ("z", 1)])

    def test_dicts(self):
        self.assertEqual(self.net.brims(), BRIMS)
        self.assertEqual(self.net.pipes(), PIPES)
        self.assertEqual(Net(BRIMS).pipes(), {})

    def test_kinds_of_what_comes_back(self):
        self.assertIs(self.net.ponds().__class__, list)
        self.assertIs(self.net.outs("mill").__class__, list)
        self.assertIs(self.net.ins("lake")[0].__class__, tuple)
        self.assertIs(self.net.brims().__class__, dict)
        self.assertIs(self.net.pipes().__class__, dict)

    def test_no_pond_of_anything(self):
        for ask in (self.net.brim, self.net.soaks, self.net.outs, self.net.ins):
            for at, thing in enumerate(["pond", "lak", "lakes", *NO_NAMES, *NO_KEYS]):
                with self.subTest(ask=ask.__name__, at=at):
                    self.refused(NoPond, ask, thing, name=thing)

    def test_no_pond_of_widths_tells_the_first_one_first(self):
        for at, thing in enumerate(["pond", *NO_NAMES, *NO_KEYS]):
            with self.subTest(at=at):
                self.refused(NoPond, self.net.width, thing, "lake", name=thing)
                self.refused(NoPond, self.net.width, "lake", thing, name=thing)
                self.refused(NoPond, self.net.width, thing, "none", name=thing)
                self.refused(NoPond, self.net.width, "none", thing, name="none")


class AlikeTest(ThingsTestCase):
    def test_order_has_no_bearing(self):
        turned = Net(dict(reversed(BRIMS.items())), dict(reversed(PIPES.items())))
        self.told_true(turned == Net(BRIMS, PIPES))
        self.told_false(turned != Net(BRIMS, PIPES))

    def test_pipes_left_out_none_or_empty(self):
        self.told_true(Net(BRIMS) == Net(BRIMS, None))
        self.told_true(Net(BRIMS) == Net(BRIMS, {}))

    def test_other_brims_ponds_widths_or_pipes(self):
        net = Net(BRIMS, PIPES)
        others = [
            Net({**BRIMS, "tarn": 5}, PIPES), Net({**BRIMS, "a": 5}, PIPES), Net(BRIMS),
            Net(BRIMS, {**PIPES, ("lake", "mill"): 3}), Net({}),
            Net({"lake": 9, "mill": 5, "tarns": 4}), Net({"a": 4, "b": 4}, {("a", "b"): 1}),
        ]
        for other in others:
            self.told_false(net == other)
            self.told_true(net != other)
        self.told_false(Net({"a": 4, "b": 4}, {("a", "b"): 1}) == Net({"a": 4, "b": 4}, {("b", "a"): 1}))

    def test_else_false(self):
        net = Net(BRIMS, PIPES)
        for other in (None, 3, "Net", BRIMS, (BRIMS, PIPES), [net], repr(net), Net, object(), Sly()):
            self.told_false(net == other)

    def test_len_is_how_many_ponds(self):
        self.assertEqual([len(Net({})), len(Net({"a": 1})), len(Net(BRIMS, PIPES))], [0, 1, 3])

    def test_repr_has_its_keys_sorted(self):
        told = (
            "Net({'lake': 9, 'mill': 5, 'tarn': 4}, {('lake', 'mill'): 4, ('mill', 'lake'): 2,"
            " ('mill', 'tarn'): 3, ('tarn', 'lake'): 3})"
        )
        self.assertEqual(repr(Net(BRIMS, PIPES)), told)
        self.assertEqual(repr(Net(BRIMS)), "Net({'lake': 9, 'mill': 5, 'tarn': 4}, {})")
        self.assertEqual(repr(Net({})), "Net({}, {})")
        self.told_true(Net(BRIMS, PIPES) == eval(told))


class EdgeTest(ThingsTestCase):
    def test_no_ponds(self):
        net = Net({})
        self.assertEqual((net.ponds(), net.brims(), net.pipes()), ([], {}, {}))
        self.refused(NoPond, net.brim, "a", name="a")

    def test_twelve_ponds_and_thirteen(self):
        self.assertEqual(len(Net(dict.fromkeys(TWELVE, 1))), 12)
        self.refused(TooMany, Net, dict.fromkeys(THIRTEEN, 1), kind="ponds")

    def test_names_of_one_and_eight_letters(self):
        self.assertEqual(Net({"a": 1, "abcdefgh": 1}).ponds(), ["a", "abcdefgh"])

    def test_brims_from_one_to_sixty(self):
        for brim in range(1, 61):
            self.assertEqual(Net({"a": brim}).brim("a"), brim)

    def test_widths_from_one_to_sixty(self):
        for width in range(1, 61):
            net = Net({"a": 60, "b": 60}, {("a", "b"): width})
            self.assertEqual((net.width("a", "b"), net.soaks("a")), (width, 60 - width))

    def test_just_the_brim_goes_out_and_one_more(self):
        brims = {"a": 5, "b": 60, "c": 60}
        self.assertEqual(Net(brims, {("a", "b"): 2, ("a", "c"): 3}).soaks("a"), 0)
        self.refused(TooWide, Net, brims, {("a", "b"): 2, ("a", "c"): 4}, name="a", side="out")
        self.refused(TooWide, Net, brims, {("a", "b"): 6}, name="a", side="out")

    def test_just_the_brim_comes_in_and_one_more(self):
        brims = {"a": 5, "b": 60, "c": 60}
        self.assertEqual(Net(brims, {("b", "a"): 2, ("c", "a"): 3}).ins("a"), [("b", 2), ("c", 3)])
        self.refused(TooWide, Net, brims, {("b", "a"): 2, ("c", "a"): 4}, name="a", side="in")
        self.refused(TooWide, Net, brims, {("b", "a"): 6}, name="a", side="in")

    def test_out_goes_ahead_of_in_and_sorted_ponds_ahead(self):
        brims = {"d": 1, "c": 60, "b": 60, "a": 2}
        self.refused(TooWide, Net, brims, {("b", "a"): 3, ("a", "b"): 3}, name="a", side="out")
        self.refused(TooWide, Net, brims, {("d", "c"): 3, ("b", "a"): 3}, name="a", side="in")
        self.refused(TooWide, Net, brims, {("d", "c"): 3, ("b", "a"): 2}, name="d", side="out")

    def test_pipes_in_both_directions(self):
        net = Net({"a": 3, "b": 4}, {("a", "b"): 3, ("b", "a"): 3})
        self.assertEqual((net.width("a", "b"), net.width("b", "a")), (3, 3))

    def test_closed_rings(self):
        ring = {("b", "c"): 2, ("c", "b"): 2}
        self.refused(Closed, Net, {"c": 2, "b": 2}, ring, names=["b", "c"])
        self.refused(Closed, Net, {"c": 2, "b": 2, "a": 1}, ring, names=["b", "c"])
        wide = {**ring, ("a", "b"): 1}
        self.refused(Closed, Net, {"d": 1, "c": 2, "b": 3, "a": 1}, {**wide, ("b", "c"): 2, ("b", "a"): 1},
                     names=["a", "b", "c"])

    def test_closed_tells_all_rings_and_no_more(self):
        brims = {"z": 9, "d": 4, "b": 2, "a": 2, "c": 2}
        open_ring = {("c", "d"): 2, ("d", "c"): 2, ("d", "z"): 2}
        self.assertEqual(len(Net(brims, open_ring)), 5)
        self.refused(Closed, Net, brims, {("a", "b"): 2, ("b", "a"): 2, **open_ring}, names=["a", "b"])
        two = {("c", "a"): 2, ("a", "c"): 2, ("d", "b"): 2, ("b", "d"): 2}
        self.refused(Closed, Net, {**brims, "d": 2}, two, names=["a", "b", "c", "d"])
        self.refused(Closed, Net, brims, two, names=["a", "c"])

    def test_a_ring_with_one_way_out(self):
        pipes = {(one, other): 2 for one, other in zip(TWELVE, TWELVE[1:] + TWELVE[0])}
        brims = dict.fromkeys(TWELVE, 2)
        self.refused(Closed, Net, brims, pipes, names=list(TWELVE))
        for name in TWELVE:
            self.assertEqual(Net({**brims, name: 3}, pipes).soaks(name), 1)

    def test_a_long_way_out(self):
        pipes = {(one, other): 2 for one, other in zip(TWELVE, TWELVE[1:])}
        net = Net(dict.fromkeys(TWELVE, 2), pipes)
        self.assertEqual([net.soaks(name) for name in TWELVE], [0] * 11 + [2])


class RefusedTest(ThingsTestCase):
    def test_no_dicts(self):
        for at, thing in enumerate(NO_DICTS):
            with self.subTest(at=at):
                self.refused(NoNet, Net, thing)
                self.refused(NoNet, Net, {"a": 1}, thing)
                self.refused(NoNet, Net, thing, {1: 1})
                self.refused(NoNet, Net, {1: 1}, thing)
        self.refused(NoNet, Net, None)
        self.refused(NoNet, Net, None, {})

    def test_no_names(self):
        for at, thing in enumerate(NO_NAMES):
            with self.subTest(at=at):
                self.refused(BadName, Net, {thing: 4}, name=thing)
                self.refused(BadName, Net, {"b": 4, thing: 4, "z": 4}, name=thing)

    def test_no_brims(self):
        for at, thing in enumerate(NO_MEASURES):
            with self.subTest(at=at):
                self.refused(BadBrim, Net, {"a": thing}, name="a")
                self.refused(BadBrim, Net, {"b": 1, "a": thing}, name="a")

    def test_no_widths(self):
        for at, thing in enumerate(NO_MEASURES):
            with self.subTest(at=at):
                self.refused(BadPipe, Net, {"a": 60, "b": 60}, {("a", "b"): thing}, pair=("a", "b"))

    def test_no_pairs(self):
        wrong = [
            (), ("a",), ("a", "b", "a"), ("a", "a"), ("a", "x"), ("x", "a"), ("x", "x"), ("a", None), (None, "a"),
            ("a", ("b",)), "ab", "a", frozenset("ab"), None, 0, True, (Sly(), "a"), ("a", Sly()), (1, 2), b"ab",
            (b"a", b"b"), ("A", "b"), ("", "a"), (("a", "b"), ("b", "a")), range(2), Sly(),
        ]
        for at, thing in enumerate(wrong):
            with self.subTest(at=at):
                self.refused(BadPipe, Net, {"a": 60, "b": 60}, {thing: 1}, pair=thing)

    def test_the_first_wrong_key_in_the_dicts_order(self):
        self.refused(BadName, Net, {"z": 1, "Y": 1, "X": 1}, name="Y")
        self.refused(BadBrim, Net, {"z": 1, "y": 0, "a": 61}, name="y")
        brims = {"a": 9, "b": 9}
        self.refused(BadPipe, Net, brims, {("b", "a"): 1, ("b", "b"): 1, ("a", "a"): 1}, pair=("b", "b"))
        self.refused(BadPipe, Net, brims, {("b", "a"): 0, ("a", "a"): 1}, pair=("b", "a"))
        self.refused(BadPipe, Net, brims, {("a", "a"): 1, ("b", "a"): 0}, pair=("a", "a"))

    def test_what_is_told_first_is_raised_first(self):
        # Each call is wrong in all that comes behind its own refusal, too.
        many = dict.fromkeys(THIRTEEN, 1)
        ring = {("a", "b"): 60, ("b", "a"): 60}
        bad = {("a", "b"): 60, ("b", "a"): 60, None: None}
        self.refused(NoNet, Net, {**many, "a": 0, "B": 0}, [])
        self.refused(NoNet, Net, [], bad)
        self.refused(BadName, Net, {**many, "a": 0, "B": 0}, bad, name="B")
        self.refused(TooMany, Net, {**many, "a": 0}, bad, kind="ponds")
        self.refused(BadBrim, Net, {"b": 61, "a": 0}, bad, name="b")
        self.refused(BadPipe, Net, {"b": 1, "a": 1}, bad, pair=None)
        self.refused(TooWide, Net, {"b": 59, "a": 60}, ring, name="b", side="out")
        self.refused(Closed, Net, {"b": 60, "a": 60}, ring, names=["a", "b"])

    def test_too_wide_goes_ahead_of_closed(self):
        pipes = {("a", "b"): 2, ("b", "a"): 2, ("c", "d"): 3}
        self.refused(TooWide, Net, {"a": 2, "b": 2, "c": 2, "d": 9}, pipes, name="c", side="out")

    def test_by_name(self):
        self.told_true(Net(pipes=PIPES, brims=BRIMS) == Net(BRIMS, PIPES))
        self.refused(BadPipe, Net, named={"pipes": {5: 1}, "brims": {}}, pair=5)

    def test_great_numbers_are_no_brims(self):
        self.refused(BadBrim, Net, {"a": GREAT}, name="a")
        self.refused(BadBrim, Net, {"a": -GREAT}, name="a")


class OwnTest(ThingsTestCase):
    def test_dicts_handed_in_stay_and_have_no_later_bearing(self):
        brims, pipes = dict(BRIMS), dict(PIPES)
        net = Net(brims, pipes)
        self.assertEqual((list(brims.items()), list(pipes.items())), (list(BRIMS.items()), list(PIPES.items())))
        brims["lake"] = 60
        brims["new"] = 7
        del brims["mill"]
        pipes.clear()
        self.told_true(net == Net(BRIMS, PIPES))
        self.assertEqual((net.brim("lake"), net.outs("lake"), len(net)), (9, [("mill", 4)], 3))

    def test_what_came_back_has_no_later_bearing(self):
        net = Net(BRIMS, PIPES)
        net.ponds().append("x")
        net.outs("mill").clear()
        net.ins("lake").clear()
        net.brims()["lake"] = 60
        net.brims().clear()
        net.pipes()[("lake", "mill")] = 60
        net.pipes().clear()
        self.assertEqual(net.ponds(), ["lake", "mill", "tarn"])
        self.assertEqual(net.outs("mill"), [("lake", 2), ("tarn", 3)])
        self.assertEqual(net.ins("lake"), [("mill", 2), ("tarn", 3)])
        self.told_true(net == Net(BRIMS, PIPES))

    def test_names_of_a_refusal_belong_to_whoever_asked(self):
        brims, pipes = {"a": 2, "b": 2}, {("a", "b"): 2, ("b", "a"): 2}
        self.refused(Closed, Net, brims, pipes).names.clear()
        self.refused(Closed, Net, brims, pipes, names=["a", "b"])
        self.assertEqual(brims, {"a": 2, "b": 2})

    def test_refused_calls_change_nothing(self):
        net = Net(BRIMS, PIPES)
        for ask in (net.brim, net.soaks, net.outs, net.ins):
            self.refused(NoPond, ask, "none", name="none")
        self.told_true(net == Net(BRIMS, PIPES))
        brims, pipes = {"b": 4, "a": 4}, {("a", "b"): 5}
        self.refused(TooWide, Net, brims, pipes)
        self.assertEqual((list(brims.items()), pipes), ([("b", 4), ("a", 4)], {("a", "b"): 5}))

    def test_what_came_back_may_be_handed_in_again(self):
        net = Net(BRIMS, PIPES)
        self.told_true(Net(net.brims(), net.pipes()) == net)

    def test_dicts_of_other_kinds_do(self):
        pair = namedtuple("pair", "one other")
        lazy = defaultdict(int, BRIMS)
        net = Net(lazy, OrderedDict({pair(*key): width for key, width in PIPES.items()}))
        self.told_true(net == Net(BRIMS, PIPES))
        self.assertEqual(repr(net), repr(Net(BRIMS, PIPES)))
        self.assertEqual(len(lazy), 3)

    def test_nets_do_not_know_of_each_other(self):
        first, second = Net(BRIMS, PIPES), Net({"lake": 1})
        self.assertEqual((first.brim("lake"), second.brim("lake")), (9, 1))
        self.assertEqual(second.pipes(), {})


def closed_ponds(brims, pipes):
    """All ponds but those that soak or lead, by any pipes, to one that does: the plain, slow way."""
    out = {one for one in brims if sum(width for pair, width in pipes.items() if pair[0] == one) < brims[one]}
    for _ in brims:
        out |= {one for one, other in pipes if other in out}
    return sorted(set(brims) - out)


class ChanceTest(ThingsTestCase):
    def test_many_nets_are_refused_just_as_told(self):
        chance = random.Random(2)
        seen = set()
        for _ in range(3000):
            ponds = chance.sample("abcdef", chance.randrange(1, 6))
            brims = {name: chance.randrange(1, 5) for name in ponds}
            pairs = [(one, other) for one in ponds for other in ponds if one != other and chance.random() < 0.4]
            pipes = {pair: chance.randrange(1, 3) for pair in pairs}
            seen.add(self.check(brims, pipes))
        self.assertEqual(seen, {"net", "out", "in", "closed"})

    def check(self, brims, pipes):
        for name in sorted(brims):
            for side, place in (("out", 0), ("in", 1)):
                if sum(width for pair, width in pipes.items() if pair[place] == name) > brims[name]:
                    self.refused(TooWide, Net, brims, pipes, name=name, side=side)
                    return side
        closed = closed_ponds(brims, pipes)
        if closed:
            self.refused(Closed, Net, brims, pipes, names=closed)
            return "closed"
        self.assertEqual(Net(brims, pipes).brims(), brims)
        return "net"


if __name__ == "__main__":
    unittest.main()
