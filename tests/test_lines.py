"""Points 2, 3, 8, 17, 20, 24 and the interface's lines."""

import unittest

from backwater.downs import way_down
from backwater.lines import paper_line, stand_line, way_line
from backwater.nets import Net
from backwater.plays import moves
from backwater.rests import rested, settled
from backwater.stands import Stand
from backwater.whys import paper
from tests.plain import large_stands, small_stands, waters_of
from tests.things import GREAT, ThingsTestCase

NET = Net({"b": 5, "a": 4})


class StandLineTest(ThingsTestCase):
    def test_as_the_document_shows_it(self):
        stand = Stand(NET, {"a": 51, "b": 33}, {"a": 12, "b": 7})
        self.assertEqual(stand_line(stand), "a:3/4*12 b:-2/5*7")
        self.assertEqual(stand_line(stand=stand), "a:3/4*12 b:-2/5*7")

    def test_ponds_sorted(self):
        stand = Stand(Net({"b": 60, "aa": 1, "abc": 2, "a": 3}), {"aa": 5})
        self.assertEqual(stand_line(stand), "a:0/3*0 aa:5/1*0 abc:0/2*0 b:0/60*0")

    def test_no_ponds_and_one(self):
        self.assertEqual(stand_line(Stand(Net({}))), "")
        self.assertEqual(stand_line(Stand(Net({"mill": 4}))), "mill:0/4*0")

    def test_great_numbers(self):
        self.assertEqual(stand_line(Stand(NET, {"a": GREAT}, {"b": GREAT})), f"a:{GREAT}/4*0 b:{-5 * GREAT}/5*{GREAT}")
        long = "1" + "0" * 5000
        self.assertEqual(stand_line(Stand(NET, {"b": 10 ** 5000})), f"a:0/4*0 b:{long}/5*0")

    def test_against_the_plain_water(self):
        for stand in [*small_stands(51, 100), *large_stands()]:
            brims, counts = stand.net().brims(), stand.counts()
            waters = waters_of(stand.net(), stand.pours(), counts)
            told = [f"{name}:{waters[name]}/{brims[name]}*{counts[name]}" for name in sorted(brims)]
            self.assertEqual(stand_line(stand), " ".join(told))


class PaperLineTest(ThingsTestCase):
    def test_each_kind(self):
        self.assertEqual(paper_line(("spill", "a")), "spill a")
        self.assertEqual(paper_line(("spill", "mill")), "spill mill")
        self.assertEqual(paper_line(("unspill", ["a", "mill", "c"])), "unspill a mill c")
        self.assertEqual(paper_line(("unspill", ["a"])), "unspill a")
        self.assertEqual(paper_line(paper=("settled", ["mill", "a"])), "settled mill a")

    def test_tuples_do_and_the_order_stays(self):
        self.assertEqual(paper_line(("unspill", ("c", "a", "b"))), "unspill c a b")
        self.assertEqual(paper_line(("settled", ())), "settled")

    def test_a_row_without_names(self):
        self.assertEqual(paper_line(("settled", [])), "settled")
        self.assertEqual(paper_line(paper(Stand(Net({})))), "settled")

    def test_papers_and_moves_that_were_told(self):
        for stand in small_stands(52, 60):
            for ahead in (stand, rested(stand), settled(stand)):
                for word, told in [paper(ahead), *moves(ahead)]:
                    names = [told] if word == "spill" else told
                    self.assertEqual(paper_line((word, told)), " ".join([word, *names]))


class WayLineTest(ThingsTestCase):
    def test_lots_and_times(self):
        self.assertEqual(way_line([(["a"], 3)]), "a*3")
        self.assertEqual(way_line(way=[(["mill"], 3), (["a", "mill"], 1)]), "mill*3 a+mill*1")
        self.assertEqual(way_line([(["d"], 1), (["c", "d"], 1), (["b", "c", "d"], GREAT)]), f"d*1 c+d*1 b+c+d*{GREAT}")

    def test_an_empty_way(self):
        self.assertEqual(way_line([]), "")
        self.assertEqual(way_line(()), "")

    def test_tuples_do(self):
        self.assertEqual(way_line(((("a", "b"), 2), (("a",), 1))), "a+b*2 a*1")

    def test_times_of_any_size(self):
        self.assertEqual(way_line([(["a"], 10 ** 5000)]), "a*1" + "0" * 5000)

    def test_ways_that_were_told(self):
        for stand in map(rested, [*small_stands(53, 100), *large_stands()]):
            told = ["+".join(lot) + f"*{times}" for lot, times in way_down(stand)]
            self.assertEqual(way_line(way_down(stand)), " ".join(told))


class OwnTest(ThingsTestCase):
    def test_what_is_handed_in_stays_as_it_was(self):
        told, way = ("unspill", ["b", "a"]), [(["b"], 1), (["b", "a"], 2)]
        stand = Stand(NET, {"a": 9}, {"b": 1})
        for ask, thing in ((paper_line, told), (way_line, way), (stand_line, stand)):
            self.assertEqual(ask(thing), ask(thing))
            self.assertIs(ask(thing).__class__, str)
        self.assertEqual((told, way), (("unspill", ["b", "a"]), [(["b"], 1), (["b", "a"], 2)]))
        self.told_true(stand == Stand(NET, {"a": 9}, {"b": 1}))


if __name__ == "__main__":
    unittest.main()
