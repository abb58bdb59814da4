"""Points 2, 3, 6, 18, 23 and the interface's texts."""

import itertools
import random
import re
import time
import unittest

from backwater.basins import Basin
from backwater.errors import NoText, WaterError
from backwater.nets import Net
from backwater.texts import basin_text, read_basin
from tests.model import Model, Refusal, check_net, do_on_basin, drawn_deed
from tests.plain import large_nets
from tests.things import GREAT, NO_TEXTS, TWELVE, ThingsTestCase

TEXT = "pond a 4 3\npond b 5 0\npond mill 60 1\npipe a b 2\npipe b a 1\npour p a 17\npour q mill 0\npour rain a 3"
LONG = "9" * 5000
NUMBER = "(0|[1-9][0-9]*)"
NAME = "([a-z]{1,8})"
ROWS = [
    re.compile(f"pond {NAME} {NUMBER} {NUMBER}"),
    re.compile(f"pipe {NAME} {NAME} {NUMBER}"),
    re.compile(f"pour {NAME} {NAME} {NUMBER}"),
]


def shown():
    """The basin of TEXT."""
    basin = Basin(Net({"mill": 60, "b": 5, "a": 4}, {("b", "a"): 1, ("a", "b"): 2}))
    for pour in (("rain", "a", 3), ("q", "mill", 0), ("x", "mill", 99), ("p", "a", 17)):
        basin.pour(*pour)
    basin.spill("mill")
    basin.spill("a", 3)
    basin.back("x")
    return basin


def sixty_pours():
    names = [one + other for one, other in itertools.islice(itertools.product("abcdefgh", repeat=2), 61)]
    return [f"pour {name} a {GREAT}" for name in names]


def is_text(text):
    """Point 23's words of a text, without the program: rows in order, unlike, of a net that point 6 takes."""
    if text == "":
        return True
    found = []
    for row in text.split("\n"):
        kinds = [kind for kind, pattern in enumerate(ROWS) if pattern.fullmatch(row)]
        if not kinds or not row.isascii():
            return False
        parts = ROWS[kinds[0]].fullmatch(row).groups()
        key = parts[:2] if kinds[0] == 1 else parts[:1]
        found.append((kinds[0], key, parts))
    keys = [(kind, key) for kind, key, parts in found]
    if keys != sorted(set(keys)):
        return False
    brims = {parts[0]: int(parts[1]) for kind, key, parts in found if kind == 0}
    pipes = {key: int(parts[2]) for kind, key, parts in found if kind == 1}
    pours = [parts for kind, key, parts in found if kind == 2]
    if any(name not in brims for pair in pipes for name in pair):
        return False
    try:
        check_net(brims, pipes)
    except Refusal:
        return False
    return len(pours) <= 60 and all(pond in brims for name, pond, amount in pours)


class WrittenTest(ThingsTestCase):
    def test_ponds_pipes_and_pours(self):
        self.assertEqual(basin_text(shown()), TEXT)
        self.assertEqual(basin_text(basin=shown()), TEXT)

    def test_no_ponds(self):
        self.assertEqual(basin_text(Basin()), "")

    def test_ponds_and_no_pours(self):
        self.assertEqual(basin_text(Basin(Net({"b": 5, "a": 4}))), "pond a 4 0\npond b 5 0")
        self.assertEqual(basin_text(Basin(Net({"b": 5, "a": 4}, {("b", "a"): 4}))), "pond a 4 0\npond b 5 0\npipe b a 4")

    def test_sorted(self):
        basin = Basin(Net(dict.fromkeys(["b", "ab", "a"], 9), {("b", "a"): 1, ("a", "b"): 1, ("a", "ab"): 1, ("ab", "b"): 1}))
        basin.pour("z", "a", 1)
        basin.pour("aa", "b", 2)
        basin.pour("b", "a", 3)
        rows = ["pond a 9 0", "pond ab 9 0", "pond b 9 0", "pipe a ab 1", "pipe a b 1", "pipe ab b 1", "pipe b a 1",
                "pour aa b 2", "pour b a 3", "pour z a 1"]
        self.assertEqual(basin_text(basin), "\n".join(rows))

    def test_numbers_of_forty_figures(self):
        basin = Basin(Net({"a": 1}))
        basin.pour("p", "a", GREAT)
        basin.settle()
        self.assertEqual(basin_text(basin), f"pond a 1 {GREAT}\npour p a {GREAT}")

    def test_a_basin_stays_as_it_was(self):
        basin = shown()
        basin_text(basin)
        self.told_true(basin == shown())


class ReadTest(ThingsTestCase):
    def test_read(self):
        for basin in (read_basin(TEXT), read_basin(text=TEXT)):
            self.assertIs(basin.__class__, Basin)
            self.told_true(basin == shown())

    def test_no_ponds(self):
        self.told_true(read_basin("") == Basin())
        self.assertIs(read_basin("").__class__, Basin)

    def test_ponds_and_no_pours(self):
        self.told_true(read_basin("pond a 4 0\npond b 5 0") == Basin(Net({"b": 5, "a": 4})))

    def test_each_reading_is_a_basin_of_its_own(self):
        one = read_basin(TEXT)
        one.back("p")
        one.settle()
        self.told_true(read_basin(TEXT) == shown())
        empty = read_basin("")
        empty.dig("a")
        self.told_true(read_basin("") == Basin())

    def test_what_was_read_goes_on_like_the_other_one(self):
        one, other = read_basin(TEXT), shown()
        for deed in (("rest",), ("back", "p"), ("pour", "p", "mill", GREAT), ("cut", "a", "b"), ("settle",)):
            self.assertEqual(do_on_basin(one, deed), do_on_basin(other, deed))
            self.told_true(one == other)

    def test_sixty_pours_and_sixty_one(self):
        rows = ["pond a 4 0", *sixty_pours()]
        basin = read_basin("\n".join(rows[:61]))
        self.assertEqual((len(basin), basin.stand().poured("a")), (60, 60 * GREAT))
        self.refused(NoText, read_basin, "\n".join(rows))

    def test_counts_and_amounts_of_many_figures(self):
        for number in ("0", "1", "10", str(GREAT), "1" + str(GREAT), "1" + "0" * 100, LONG):
            text = f"pond a 4 {number}\npour p a {number}"
            basin = read_basin(text)
            self.assertEqual(basin_text(basin), text)
            self.assertEqual(basin.counts()["a"], basin.pours()[0][2])
        self.assertEqual(read_basin(f"pond a 4 {LONG}").counts()["a"], 10 ** 5000 - 1)
        for text in (f"pond a {LONG} 0", f"pond a 4 0{LONG}", f"pond a 4 {LONG}a", f"pond a 4 -{LONG}"):
            self.refused(NoText, read_basin, text)

    def test_no_text_of_anything(self):
        for at, thing in enumerate(NO_TEXTS):
            with self.subTest(at=at):
                self.refused(NoText, read_basin, thing)
                self.refused(NoText, read_basin, named={"text": thing})

    def test_blanks_and_line_feeds(self):
        for blank in (" ", "\n", "  ", "\t", "\r", "\x00", "\xa0", "\u2003"):
            self.refused(NoText, read_basin, blank)
            for at in range(len(TEXT) + 1):
                self.refused(NoText, read_basin, TEXT[:at] + blank + TEXT[at:])
        self.refused(NoText, read_basin, TEXT.replace("\n", "\r\n"))
        self.refused(NoText, read_basin, TEXT.replace("\n", "\n\n"))
        self.refused(NoText, read_basin, TEXT.replace("\n", "; "))
        self.refused(NoText, read_basin, TEXT.replace(" ", "  "))

    def test_a_0_too_many(self):
        for match in re.finditer(r"\d+", TEXT):
            self.refused(NoText, read_basin, TEXT[:match.start()] + "0" + TEXT[match.start():])
        for number in ("00", "-0", "+0", "", "-1", "+1", "1.0", "1_0", "0x1", "True", "None", "a", "\u0661", "\u00b2"):
            self.refused(NoText, read_basin, f"pond a 4 {number}")
            self.refused(NoText, read_basin, f"pond a {number} 0")
            self.refused(NoText, read_basin, f"pond a 4 0\npour p a {number}")
            self.refused(NoText, read_basin, f"pond a 4 0\npond b 4 0\npipe a b {number}")

    def test_rows_in_another_order(self):
        rows = TEXT.split("\n")
        for one, other in itertools.combinations(range(len(rows)), 2):
            swapped = list(rows)
            swapped[one], swapped[other] = rows[other], rows[one]
            self.refused(NoText, read_basin, "\n".join(swapped))
        self.refused(NoText, read_basin, "\n".join(reversed(rows)))

    def test_rows_twice(self):
        rows = TEXT.split("\n")
        for at, row in enumerate(rows):
            self.refused(NoText, read_basin, "\n".join(rows[:at] + [row] + rows[at:]))
        for row in ("pond a 4 4", "pipe a b 1", "pour p a 18", "pour p b 17"):
            for at in range(len(rows) + 1):
                self.refused(NoText, read_basin, "\n".join(rows[:at] + [row] + rows[at:]))

    def test_rows_with_words_too_few_or_too_many(self):
        for row in ("pond", "pond a", "pond a 4", "pond a 4 0 0", "pipe a b", "pipe a b 1 1", "pour p a", "pour p a 1 1",
                    "a 4 0", "Pond a 4 0", "pool a 4 0", "ponda 4 0", "pond 4 a 0", " ", "4"):
            self.refused(NoText, read_basin, row)
            self.refused(NoText, read_basin, TEXT + "\n" + row)
            self.refused(NoText, read_basin, row + "\n" + TEXT)

    def test_a_net_that_is_refused(self):
        for text in (
            "pond A 4 0", "pond abcdefghi 4 0", "pond a1 4 0", "pond a 0 0", "pond a 61 0",
            "pond a 4 0\npipe a a 1", "pond a 4 0\npipe a b 1", "pond a 4 0\npipe b a 1",
            "pond a 4 0\npond b 4 0\npipe a b 0", "pond a 4 0\npond b 60 0\npipe a b 61",
            "pond a 4 0\npond b 9 0\npipe a b 5", "pond a 9 0\npond b 4 0\npipe a b 5",
            "pond a 4 0\npond b 4 0\npipe a b 4\npipe b a 4",
            "\n".join(f"pond {name} 4 0" for name in "abcdefghijklm"),
        ):
            with self.subTest(text=text):
                self.refused(NoText, read_basin, text)
        twelve = "\n".join(f"pond {name} 4 0" for name in TWELVE)
        self.told_true(read_basin(twelve) == Basin(Net(dict.fromkeys(TWELVE, 4))))

    def test_pours_that_are_refused(self):
        for row in ("pour P a 1", "pour p x 1", "pour p A 1", "pour abcdefghi a 1", "pour p a -1", "pour 1 a 1"):
            self.refused(NoText, read_basin, "pond a 4 0\n" + row)
            self.refused(NoText, read_basin, row)


class DrawnTest(ThingsTestCase):
    def basins(self, many):
        for seed in range(many):
            chance = random.Random(6000 + seed)
            basin, model = Basin(), Model()
            for _ in range(chance.randrange(60)):
                deed = drawn_deed(chance, model)
                try:
                    model.do(deed)
                except Refusal:
                    continue
                do_on_basin(basin, deed)
            yield basin, model

    def test_written_and_read_again(self):
        pipes = pours = 0
        for basin, model in self.basins(80):
            rows = [f"pond {name} {model.brims[name]} {model.counts[name]}" for name in sorted(model.brims)]
            rows += [f"pipe {one} {other} {model.pipes[one, other]}" for one, other in sorted(model.pipes)]
            rows += [f"pour {name} {pond} {amount}" for name, pond, amount in model.pour_list()]
            text = basin_text(basin)
            self.assertEqual(text, "\n".join(rows))
            self.told_true(read_basin(text) == basin)
            pipes += bool(model.pipes)
            pours += len(model.pours) > 1
        self.assertGreater(min(pipes, pours), 20)

    def test_texts_with_a_sign_changed(self):
        chance = random.Random(61)
        read = refused = 0
        for basin, model in self.basins(40):
            text = basin_text(basin)
            for _ in range(60):
                at = chance.randrange(len(text) + 1)
                sign = chance.choice(["", " ", "\n", *"0123456789", *"abpz", "-", chance.choice("A+~;*")])
                other = text[:at] + sign + text[at + chance.randrange(2):]
                if is_text(other):
                    self.assertEqual(basin_text(read_basin(other)), other)
                    read += 1
                else:
                    self.refused(NoText, read_basin, other)
                    refused += 1
        self.assertGreater(min(read, refused), 150)

    def test_rows_left_out_or_moved(self):
        chance = random.Random(62)
        read = refused = 0
        for basin, model in self.basins(60):
            rows = basin_text(basin).split("\n")
            for _ in range(12):
                some = chance.sample(rows, chance.randint(0, len(rows)))
                some = sorted(some, key=rows.index) if chance.randrange(3) else some
                other = "\n".join(some)
                if is_text(other):
                    self.assertEqual(basin_text(read_basin(other)), other)
                    read += 1
                else:
                    self.refused(NoText, read_basin, other)
                    refused += 1
        self.assertGreater(min(read, refused), 100)

    def test_is_text_itself(self):
        self.assertTrue(is_text(TEXT))
        self.assertFalse(is_text(TEXT + "\n"))


class LargeTest(ThingsTestCase):
    def test_full_basins(self):
        for net in large_nets():
            basin = Basin(net)
            for at, row in enumerate(sixty_pours()[:60]):
                basin.pour(row.split(" ")[1], TWELVE[at % 12], GREAT - at)
            basin.settle()
            began = time.perf_counter()
            text = basin_text(basin)
            again = read_basin(text)
            self.assertLess(time.perf_counter() - began, 3)
            self.told_true(again == basin)
            try:
                read_basin(text + "\npour zz a 1")
                self.fail("sixty-one pours")
            except WaterError as refusal:
                self.assertIs(refusal.__class__, NoText)


if __name__ == "__main__":
    unittest.main()
