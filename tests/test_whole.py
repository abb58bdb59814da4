"""Point 4, over the whole program: nothing is left of what was taken back, nor of the way."""

import random
import unittest

from backwater.basins import Basin
from backwater.desk import Desk
from backwater.downs import over, way_down
from backwater.histories import History
from backwater.lots import can_unspill, greatest_lot, unspilled
from backwater.nets import Net
from backwater.rests import rested, settled
from backwater.spills import at_rest, spilling
from backwater.stands import Stand
from backwater.texts import basin_text, read_basin
from backwater.whys import holds, is_settled, paper, row_of_why
from tests.model import Model, Refusal, do_on_basin, drawn_deed
from tests.plain import large_stands, lots_of, rested_one_by_one
from tests.things import GREAT, ThingsTestCase


class WholeTestCase(ThingsTestCase):
    def drawn(self, seed, many):
        """A basin on which drawn deeds were done, and those deeds."""
        chance = random.Random(seed)
        basin, model, done = Basin(), Model(), []
        while len(done) < many:
            deed = drawn_deed(chance, model)
            try:
                model.do(deed)
            except Refusal:
                continue
            do_on_basin(basin, deed)
            done.append(deed)
        return basin, done

    def made_anew(self, basin):
        """A basin of the same net and pours, from the beginning, spilled pond by pond."""
        fresh = Basin(Net(basin.net().brims(), basin.net().pipes()))
        for name, pond, amount in reversed(basin.pours()):
            fresh.pour(name, pond, amount)
        counts = rested_one_by_one(fresh.net(), fresh.stand().pours(), {}, max)
        fresh.come_to(Stand(fresh.net(), None, counts))
        return fresh


class ScheduleTest(WholeTestCase):
    def run_out(self, basin, chance):
        """Spill ponds and unspill lots, as they are drawn out of all that can be, till there's nothing left to do."""
        steps = 0
        while True:
            stand = basin.stand()
            if spilling(stand):
                name = chance.choice(spilling(stand))
                basin.spill(name, chance.randint(1, stand.water(name) // stand.net().brim(name)))
            else:
                lots = [lot for lot in lots_of(stand.net().ponds()) if can_unspill(stand, lot)]
                if not lots:
                    return steps
                basin.unspill(chance.choice(lots))
            steps += 1

    def test_whatever_the_schedule_it_ends_as_from_the_beginning(self):
        long = 0
        for seed in range(60):
            basin, done = self.drawn(500 + seed, 45)
            fresh = self.made_anew(basin)
            for turn in range(3):
                one = basin.copied()
                long += self.run_out(one, random.Random(turn)) > 3
                self.told_true(one == fresh)
            basin.settle()
            self.told_true(basin == fresh)
        self.assertGreater(long, 30)

    def test_runs_between_the_deeds_leave_nothing(self):
        """The same deeds with other spills and lots between them come to the same, once settled."""
        for seed in range(40):
            chance = random.Random(seed)
            basin, done = self.drawn(600 + seed, 40)
            other = Basin()
            for deed in done:
                if deed[0] in ("spill", "unspill", "rest", "settle"):
                    continue
                do_on_basin(other, deed)
                if chance.randrange(3) == 0:
                    self.run_out(other, chance)
                if chance.randrange(3) == 0:
                    other.rest()
            basin.settle()
            self.run_out(other, chance)
            self.told_true(other == basin)

    def test_all_taken_back_leaves_nothing_at_all(self):
        for seed in range(40):
            basin, done = self.drawn(700 + seed, 45)
            for name, pond, amount in basin.pours():
                basin.rest()
                basin.back(name)
            basin.settle()
            self.told_true(basin == Basin(basin.net()))
            for one, other in basin.net().pipes():
                basin.cut(one, other)
            for pond in basin.net().ponds():
                basin.fill(pond)
            self.told_true(basin == Basin())


class WayTest(WholeTestCase):
    def test_settled_just_where_a_row_tells_why_else_a_way_leads_down(self):
        found = {True: 0, False: 0}
        stands = [self.drawn(800 + seed, 35)[0].stand() for seed in range(80)]
        for stand in [*map(rested, stands), *map(rested, large_stands()), *map(settled, large_stands())]:
            row, way = row_of_why(stand), way_down(stand)
            self.assertIs(row is not None, stand == settled(stand))
            self.assertIs(is_settled(stand), row is not None)
            self.assertIs(greatest_lot(stand) == [], row is not None)
            self.assertIs(way == [], row is not None)
            self.assertLessEqual(max(len(row or []), len(way)), len(stand.net()))
            self.told_true(holds(stand, paper(stand)))
            found[row is not None] += 1
            for lot, times in way:
                stand = unspilled(stand, lot, times)
            self.told_true(is_settled(stand))
            self.assertEqual(set(over(stand).values()) | {0}, {0})
        self.assertGreater(min(found.values()), 15)

    def test_papers_lead_to_where_it_is_settled(self):
        for seed in range(40):
            basin = self.drawn(900 + seed, 30)[0]
            stand = basin.stand()
            while paper(basin.stand())[0] != "settled":
                word, told = paper(basin.stand())
                basin.spill(told) if word == "spill" else basin.unspill(told)
            self.told_true(basin.stand() == settled(stand))
            self.told_true(at_rest(basin.stand()))


class PartsTest(WholeTestCase):
    def row_of(self, deed):
        """A deed as a desk is told it."""
        word, *told = deed
        if word == "unspill":
            told = [*told[0], told[1]]
        return " ".join([word, *map(str, told)])

    def test_basin_history_and_desk_come_to_the_same(self):
        for seed in range(30):
            basin, done = self.drawn(1100 + seed, 50)
            history, desk = History(), Desk()
            for deed in done:
                history.do(deed)
                desk.say(self.row_of(deed))
            self.told_true(history.basin() == basin)
            self.told_true(desk.basin("main") == basin)
            self.assertEqual(desk.say("text"), basin_text(basin).replace("\n", "; "))
            self.told_true(read_basin(basin_text(basin)) == basin)

    def test_a_deed_out_of_the_midst_leaves_what_there_would_be_without_it(self):
        """Settled, a desk that was never told a deed has what a history has of which it was lifted."""
        lifted = 0
        for seed in range(30):
            basin, done = self.drawn(1200 + seed, 40)
            at = random.Random(seed).randrange(40)
            history = History()
            for deed in done:
                history.do(deed)
            kinds = ("spill", "unspill", "rest", "settle")
            rows = [self.row_of(deed) for place, deed in enumerate(done) if place != at and deed[0] not in kinds]
            desk = Desk()
            try:
                desk.say_all(rows)
            except ValueError:
                self.assertRaises(ValueError, history.lift, at)
                continue
            history.lift(at)
            desk.say("settle")
            self.told_true(desk.basin("main") == history.basin())
            lifted += 1
        self.assertGreater(lifted, 8)

    def test_what_came_back_may_be_handed_in_again_whatever_its_size(self):
        basin = Basin(Net({"a": 2, "b": 2}, {("a", "b"): 2, ("b", "a"): 1}))
        basin.pour("p", "a", GREAT)
        for _ in range(6):
            basin.settle()
            counts = basin.counts()
            basin.back("p")
            basin.pour("p", "b", counts["a"] * counts["b"])
            again = read_basin(basin_text(basin))
            self.told_true(again == basin)
            self.told_true(settled(Stand(again.net(), again.stand().pours(), counts)) == settled(again.stand()))
        self.assertGreater(basin.pours()[0][2], 10 ** 2000)


if __name__ == "__main__":
    unittest.main()
