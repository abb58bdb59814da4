"""Points 2, 3, 8 and the interface's stands."""

import random
import unittest
from collections import Counter, OrderedDict

from backwater.errors import BadCount, BadPoured, NoPond
from backwater.nets import Net
from backwater.outlets import with_brim
from backwater.stands import Stand
from tests.things import GREAT, NO_COUNTS, NO_DICTS, NO_KEYS, NO_NAMES, TWELVE, Sly, ThingsTestCase

BRIMS = {"c": 5, "a": 9, "b": 4}
PIPES = {("b", "a"): 3, ("c", "a"): 2, ("a", "c"): 4, ("c", "b"): 1}
NET = Net(BRIMS, PIPES)
POURED = {"b": 7, "a": 100}
COUNTS = {"c": 3, "a": 6}


class AskedTest(ThingsTestCase):
    def setUp(self):
        self.stand = Stand(NET, POURED, COUNTS)

    def test_net(self):
        self.told_true(self.stand.net() == NET)

    def test_poured_and_count_one_by_one(self):
        self.assertEqual([self.stand.poured(name) for name in "abc"], [100, 7, 0])
        self.assertEqual([self.stand.count(name) for name in "abc"], [6, 0, 3])
        self.assertEqual((self.stand.poured(name="a"), self.stand.count(name="c")), (100, 3))

    def test_water(self):
        # a: 100 - 9 * 6 + 2 * 3; b: 7 + 1 * 3; c: 0 - 5 * 3 + 4 * 6
        self.assertEqual([self.stand.water(name) for name in "abc"], [52, 10, 9])
        self.assertEqual(self.stand.water(name="a"), 52)

    def test_dicts_from_all_ponds(self):
        self.assertEqual(self.stand.pours(), {"a": 100, "b": 7, "c": 0})
        self.assertEqual(self.stand.counts(), {"a": 6, "b": 0, "c": 3})
        self.assertEqual(self.stand.waters(), {"a": 52, "b": 10, "c": 9})
        for told in (self.stand.pours(), self.stand.counts(), self.stand.waters()):
            self.assertIs(told.__class__, dict)

    def test_what_is_left_out_is_nought(self):
        nought = {"a": 0, "b": 0, "c": 0}
        for stand in (Stand(NET), Stand(NET, None, None), Stand(NET, {}, {}), Stand(NET, nought, nought)):
            self.assertEqual((stand.pours(), stand.counts(), stand.waters()), (nought, nought, nought))
            self.told_true(stand == Stand(NET))

    def test_each_one_alone(self):
        self.assertEqual(Stand(NET, POURED).waters(), {"a": 100, "b": 7, "c": 0})
        self.assertEqual(Stand(NET, counts={"a": 1}).waters(), {"a": -9, "b": 0, "c": 4})
        self.assertEqual(Stand(NET, None, {"c": 2}).waters(), {"a": 4, "b": 2, "c": -10})

    def test_water_below_nought(self):
        self.assertEqual(Stand(NET, {"b": 3}, {"b": 1}).water("b"), -1)
        self.assertEqual(Stand(NET, {"b": 4}, {"b": 1}).water("b"), 0)

    def test_pipes_in_both_directions(self):
        net = Net({"a": 3, "b": 4}, {("a", "b"): 3, ("b", "a"): 2})
        self.assertEqual(Stand(net, {"a": 10}, {"a": 5, "b": 7}).waters(), {"a": 9, "b": -13})

    def test_no_ponds(self):
        stand = Stand(Net({}))
        self.assertEqual((stand.pours(), stand.counts(), stand.waters()), ({}, {}, {}))
        self.refused(NoPond, stand.water, "a", name="a")
        self.refused(BadPoured, Stand, Net({}), {"a": 0}, name="a")

    def test_no_pond_of_anything(self):
        for ask in (self.stand.poured, self.stand.count, self.stand.water):
            for at, thing in enumerate(["x", "aa", *NO_NAMES, *NO_KEYS]):
                with self.subTest(ask=ask.__name__, at=at):
                    self.refused(NoPond, ask, thing, name=thing)

    def test_numbers_of_forty_figures(self):
        stand = Stand(NET, {"a": GREAT, "b": 0, "c": GREAT}, {"a": GREAT, "b": GREAT, "c": GREAT - 1})
        self.assertEqual((stand.poured("a"), stand.count("c")), (GREAT, GREAT - 1))
        waters = {"a": GREAT - 9 * GREAT + 3 * GREAT + 2 * GREAT - 2, "b": -4 * GREAT + GREAT - 1, "c": 5}
        self.assertEqual(stand.waters(), waters)

    def test_greater_numbers_that_came_back_may_be_handed_in_again(self):
        pipes = {(one, "l"): 5 for one in TWELVE[:11]}
        net = Net(dict.fromkeys(TWELVE, 60), pipes)
        came = Stand(net, {"l": GREAT}, dict.fromkeys(TWELVE[:11], GREAT)).water("l")
        self.assertEqual(came, 56 * GREAT)
        again = Stand(net, {"l": came}, {"l": came})
        self.assertEqual((again.count("l"), again.water("l")), (came, -59 * came))

    def test_twelve_ponds_against_the_plain_sum(self):
        chance = random.Random(5)
        pipes = {(one, other): 1 + (TWELVE.index(one) * 5 + TWELVE.index(other)) % 4
                 for one in TWELVE for other in TWELVE if one != other}
        net = Net(dict.fromkeys(TWELVE, 60), pipes)
        for _ in range(50):
            poured = {name: chance.randrange(GREAT) for name in TWELVE}
            counts = {name: chance.randrange(GREAT) for name in TWELVE}
            waters = {
                name: poured[name] - 60 * counts[name]
                + sum(width * counts[pair[0]] for pair, width in pipes.items() if pair[1] == name)
                for name in TWELVE
            }
            self.assertEqual(Stand(net, poured, counts).waters(), waters)


class AlikeTest(ThingsTestCase):
    def test_alike(self):
        first = Stand(NET, POURED, COUNTS)
        self.told_true(first == Stand(NET, {**POURED, "c": 0}, {"a": 6, "b": 0, "c": 3}))
        self.told_true(first == Stand(Net(BRIMS, PIPES), dict(POURED), dict(COUNTS)))
        self.told_true(first == Stand(counts=COUNTS, poured=POURED, net=NET))
        self.told_false(first != Stand(NET, POURED, COUNTS))

    def test_other_nets_poured_or_counts(self):
        first = Stand(NET, POURED, COUNTS)
        others = [
            Stand(with_brim(NET, "b", 5), POURED, COUNTS), Stand(NET, {**POURED, "a": 99}, COUNTS),
            Stand(NET, POURED, {**COUNTS, "a": 7}), Stand(NET, POURED), Stand(NET, None, COUNTS),
            Stand(NET, COUNTS, POURED), Stand(Net({})),
        ]
        for other in others:
            self.told_false(first == other)
            self.told_true(first != other)

    def test_alike_waters_do_not_do(self):
        net = Net({"a": 4})
        self.told_false(Stand(net, {"a": 4}, {"a": 1}) == Stand(net))

    def test_else_false(self):
        stand = Stand(NET, POURED, COUNTS)
        for other in (None, 0, "Stand", NET, POURED, (NET, POURED, COUNTS), [stand], repr(stand), Stand, Sly()):
            self.told_false(stand == other)
        self.told_false(NET == stand)

    def test_repr_has_its_keys_sorted(self):
        told = f"Stand({NET!r}, {{'a': 100, 'b': 7, 'c': 0}}, {{'a': 6, 'b': 0, 'c': 3}})"
        self.assertEqual(repr(Stand(NET, POURED, COUNTS)), told)
        self.assertEqual(repr(Stand(Net({"b": 1, "a": 2}))),
                         "Stand(Net({'a': 2, 'b': 1}, {}), {'a': 0, 'b': 0}, {'a': 0, 'b': 0})")
        self.assertEqual(repr(Stand(Net({}))), "Stand(Net({}, {}), {}, {})")
        self.told_true(eval(told) == Stand(NET, POURED, COUNTS))


class RefusedTest(ThingsTestCase):
    def test_no_dicts_have_no_name(self):
        for at, thing in enumerate(NO_DICTS):
            with self.subTest(at=at):
                self.refused(BadPoured, Stand, NET, thing, name=None)
                self.refused(BadCount, Stand, NET, None, thing, name=None)
                self.refused(BadCount, Stand, NET, POURED, thing, name=None)

    def test_keys_that_are_no_ponds(self):
        for at, thing in enumerate(["x", "aa", *NO_NAMES]):
            with self.subTest(at=at):
                self.refused(BadPoured, Stand, NET, {thing: 1}, name=thing)
                self.refused(BadPoured, Stand, NET, {"c": 1, thing: 1, "b": -1}, name=thing)
                self.refused(BadCount, Stand, NET, {}, {thing: 1}, name=thing)
                self.refused(BadCount, Stand, NET, {}, {"c": 1, thing: 1, "b": -1}, name=thing)

    def test_numbers_that_are_none_from_nought_on(self):
        for at, thing in enumerate(NO_COUNTS):
            with self.subTest(at=at):
                self.refused(BadPoured, Stand, NET, {"b": thing}, name="b")
                self.refused(BadPoured, Stand, NET, {"c": 0, "b": thing, "a": thing}, name="b")
                self.refused(BadCount, Stand, NET, {}, {"b": thing}, name="b")
                self.refused(BadCount, Stand, NET, {}, {"c": 0, "b": thing, "a": thing}, name="b")

    def test_the_first_wrong_key_in_its_order(self):
        self.refused(BadPoured, Stand, NET, {"c": 1, "b": -1, "x": 1, "a": None}, name="b")
        self.refused(BadPoured, Stand, NET, {"c": 1, "x": 1, "b": -1}, name="x")
        self.refused(BadCount, Stand, NET, {}, {"c": True, "a": -1}, name="c")

    def test_poured_goes_ahead_of_counts(self):
        self.refused(BadPoured, Stand, NET, {"c": 1, "b": -1}, [], name="b")
        self.refused(BadPoured, Stand, NET, [], [], name=None)
        self.refused(BadPoured, Stand, NET, named={"counts": {"x": 1}, "poured": {"b": -1}}, name="b")
        self.refused(BadCount, Stand, NET, {"b": 1}, {"x": 1}, name="x")

    def test_none_as_a_key_is_told_as_it_is(self):
        self.refused(BadPoured, Stand, NET, {"a": 1, None: 1, "x": 1}, name=None)
        self.refused(BadCount, Stand, NET, {}, {"a": 1, None: 1, "x": 1}, name=None)


class OwnTest(ThingsTestCase):
    def test_dicts_handed_in_stay_and_have_no_later_bearing(self):
        poured, counts = dict(POURED), dict(COUNTS)
        stand = Stand(NET, poured, counts)
        self.assertEqual((list(poured.items()), list(counts.items())), (list(POURED.items()), list(COUNTS.items())))
        poured["a"] = 0
        poured["x"] = 1
        counts.clear()
        self.told_true(stand == Stand(NET, POURED, COUNTS))
        self.assertEqual(stand.waters(), {"a": 52, "b": 10, "c": 9})

    def test_what_came_back_has_no_later_bearing(self):
        stand = Stand(NET, POURED, COUNTS)
        stand.pours()["a"] = 0
        stand.pours().clear()
        stand.counts()["a"] = 0
        stand.counts().clear()
        stand.waters().clear()
        stand.net().brims().clear()
        stand.net().pipes().clear()
        self.told_true(stand == Stand(NET, POURED, COUNTS))
        self.assertEqual(stand.waters(), {"a": 52, "b": 10, "c": 9})

    def test_one_dict_for_both(self):
        both = {"a": 1}
        stand = Stand(NET, both, both)
        both["a"] = 2
        stand.pours()["a"] = 3
        self.assertEqual((stand.poured("a"), stand.count("a")), (1, 1))

    def test_dicts_that_the_net_was_made_of_have_no_bearing(self):
        brims, pipes = dict(BRIMS), dict(PIPES)
        stand = Stand(Net(brims, pipes), POURED, COUNTS)
        brims.clear()
        pipes.clear()
        self.told_true(stand == Stand(NET, POURED, COUNTS))

    def test_refused_calls_change_nothing(self):
        stand = Stand(NET, POURED, COUNTS)
        for ask in (stand.poured, stand.count, stand.water):
            self.refused(NoPond, ask, "x", name="x")
        self.told_true(stand == Stand(NET, POURED, COUNTS))
        poured, counts = {"b": 1, "a": 1}, {"b": 1, "a": -1}
        self.refused(BadCount, Stand, NET, poured, counts, name="a")
        self.assertEqual((list(poured.items()), list(counts.items())), ([("b", 1), ("a", 1)], [("b", 1), ("a", -1)]))
        self.assertEqual(NET.brims(), BRIMS)

    def test_dicts_of_other_kinds_do(self):
        poured = Counter(POURED)
        self.told_true(Stand(NET, poured, OrderedDict(COUNTS)) == Stand(NET, POURED, COUNTS))
        self.assertEqual(len(poured), 2)

    def test_what_came_back_may_be_handed_in_again(self):
        stand = Stand(NET, POURED, COUNTS)
        self.told_true(Stand(stand.net(), stand.pours(), stand.counts()) == stand)


if __name__ == "__main__":
    unittest.main()
