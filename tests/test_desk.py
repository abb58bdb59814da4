"""Points 2, 3, 4, 25, 26, 27 and the interface's desk."""

import random
import time
import unittest

from backwater.basins import Basin
from backwater.desk import Desk
from backwater.errors import (
    AtWork, BadBrim, BadLot, BadPipe, BadTimes, CantSpill, CantUnspill, Closed, Halted, Joined, NoBasin, NoPipe, NoPond,
    NoPour, NoRow, NotAtRest, Taken, TooMany, TooWide, WaterError, Wet,
)
from backwater.nets import Net
from backwater.rests import settled
from backwater.stands import Stand
from backwater.whys import is_row_of_why
from tests.desk_model import DeskModel, drawn_row, is_row
from tests.model import Refusal
from tests.plain import unneeded
from tests.things import GREAT, NO_KEYS, NO_NAMES, NO_TEXTS, TWELVE, ThingsTestCase

SECONDS = 3
NET = Net({"a": 4, "b": 5, "c": 3}, {("a", "b"): 3, ("b", "c"): 1})
ROWS = ["dig a", "dig b 5", "dig c 3", "pipe a b 3", "pipe b c", "pour p a 40", "pour q b 2"]

DEED_FORMS = {
    "pour": ("AAK",), "back": ("A",), "dig": ("A", "AK"), "fill": ("A",), "brim": ("AK",), "pipe": ("AA", "AAK"),
    "cut": ("AA",), "spill": ("A", "AK"), "unspill": ("A", "AA", "AAA", "AK", "AAK", "AAAK"), "rest": ("",), "settle": ("",),
}
FORMS = {
    **DEED_FORMS, "new": ("A",), "fork": ("A",), "go": ("A",), "gone": ("A",), "line": ("",), "why": ("",), "down": ("",),
    "over": ("",), "text": ("",), "basins": ("",), "same": ("A",), "play": ("", "K", "KK", "KKK", "KKKK"),
}


def told(rows=ROWS):
    desk = Desk()
    desk.say_all(rows)
    return desk


def seen(desk):
    """All that can be seen of a desk but its journal."""
    names = names_on(desk)
    basins = [desk.basin(name) for name in names]
    return desk.at_work(), names, [(basin.net(), basin.pours(), basin.counts()) for basin in basins]


def names_on(desk):
    """The names of a desk's basins, found by asking for each name that the tests use."""
    names = ["main", "a", "b", "z", "rest", "pond", "new", "aa", "c", "play", *[name * 2 for name in TWELVE]]
    found = []
    for name in names:
        try:
            desk.basin(name)
        except NoBasin:
            continue
        found.append(name)
    return sorted(found)


class DeskTestCase(ThingsTestCase):
    def refused_unchanged(self, error, desk, row, **fields):
        """Refused, nothing has changed, and the journal has both marks."""
        ahead, journal = seen(desk), desk.journal()
        self.refused(error, desk.say, row, **fields)
        self.assertEqual(seen(desk), ahead)
        self.assertEqual(desk.journal(), [*journal, f"> {row}" if isinstance(row, str) else "> ?", "<"])

    def says(self, desk, *rows_and_texts):
        for row, text in zip(rows_and_texts[::2], rows_and_texts[1::2]):
            answer = desk.say(row)
            self.assertEqual((row, answer), (row, text))
            self.assertIs(answer.__class__, str)


class BasinsTest(DeskTestCase):
    def test_at_first(self):
        desk = Desk()
        self.assertEqual((desk.at_work(), desk.journal()), ("main", []))
        self.told_true(desk.basin("main") == Basin())
        self.told_true(desk.basin(name="main") == Basin())
        self.says(desk, "basins", "*main", "line", "", "text", "", "over", "", "down", "", "why", "settled", "rest", "",
                  "settle", "", "play", "", "play 0 1", "", "same main", "yes")

    def test_new(self):
        desk = told()
        self.says(desk, "new z", "ok", "basins", "main *z", "line", "", "dig a 9", "ok", "text", "pond a 9 0")
        self.assertEqual(desk.at_work(), "z")
        self.told_true(desk.basin("z") == Basin(Net({"a": 9})))
        self.told_true(desk.basin("main") == told().basin("main"))

    def test_fork(self):
        desk = told()
        self.says(desk, "rest", "a+10 b+6 c+2", "fork z", "ok", "basins", "*main z")
        self.told_true(desk.basin("z") == desk.basin("main"))
        self.says(desk, "back p", "ok", "go z", "ok", "basins", "main *z")
        self.assertEqual(desk.basin("z").pours(), [("p", "a", 40), ("q", "b", 2)])
        self.assertEqual(desk.basin("main").pours(), [("q", "b", 2)])
        self.says(desk, "settle", "", "go main", "ok", "settle", "a-10 b-6 c-2")
        self.assertEqual(desk.basin("z").counts(), {"a": 10, "b": 6, "c": 2})

    def test_go_and_gone(self):
        desk = told(["fork a", "fork b", "fork c"])
        self.says(desk, "basins", "a b c *main", "go b", "ok", "basins", "a *b c main", "gone main", "ok",
                  "basins", "a *b c", "go b", "ok", "gone c", "ok", "new main", "ok", "basins", "a b *main")

    def test_names_that_are_words(self):
        desk = Desk()
        self.says(desk, "new rest", "ok", "new pond", "ok", "new play", "ok", "new new", "ok", "go rest", "ok",
                  "dig rest", "ok", "dig main", "ok", "dig pond", "ok", "pipe rest pond", "ok", "pour pour rest 9", "ok",
                  "spill rest", "ok", "rest", "rest+1", "back pour", "ok", "unspill rest 1", "ok", "unspill rest", "ok",
                  "text", "pond main 4 0; pond pond 4 0; pond rest 4 0; pipe rest pond 1",
                  "cut rest pond", "ok", "fill rest", "ok", "line", "main:0/4*0 pond:0/4*0", "gone new", "ok",
                  "basins", "main play pond *rest", "same main", "no")

    def test_what_is_refused(self):
        desk = told(["fork z", "fork rest"])
        for row in ("new main", "new z", "fork z", "fork main", "fork rest"):
            self.refused_unchanged(Taken, desk, row, name=row.split(" ")[1])
        for row in ("go a", "gone a", "same a", "go new"):
            self.refused_unchanged(NoBasin, desk, row, name=row.split(" ")[1])
        self.refused_unchanged(AtWork, desk, "gone main", name="main")
        desk.say("go z")
        self.refused_unchanged(AtWork, desk, "gone z", name="z")

    def test_twelve_basins_and_one_more(self):
        desk = Desk()
        for name in TWELVE[:5]:
            desk.say(f"new {name * 2}")
        for name in TWELVE[5:11]:
            desk.say(f"fork {name * 2}")
        self.assertEqual(desk.say("basins"), "aa bb cc dd *ee ff gg hh ii jj kk main")
        for word in ("new", "fork"):
            self.refused_unchanged(TooMany, desk, f"{word} ll", kind="basins")
            self.refused_unchanged(Taken, desk, f"{word} aa", name="aa")
        self.says(desk, "gone aa", "ok", "new ll", "ok", "basins", "bb cc dd ee ff gg hh ii jj kk *ll main")
        self.refused_unchanged(TooMany, desk, "fork aa", kind="basins")

    def test_same(self):
        desk = told([*ROWS, "fork z"])
        self.says(desk, "same z", "yes", "same main", "yes", "rest", "a+10 b+6 c+2", "same z", "yes", "back q", "ok",
                  "same z", "no", "pour q b 2", "ok", "same z", "yes", "brim c 4", "ok", "same z", "no", "brim c 3", "ok",
                  "same z", "yes", "cut b c", "ok", "same z", "no", "pipe b c", "ok", "same z", "yes", "back q", "ok",
                  "pour q b 3", "ok", "same z", "no", "back q", "ok", "pour x b 2", "ok", "same z", "no", "go z", "ok",
                  "same main", "no", "same z", "yes", "new b", "ok", "new c", "ok", "same b", "yes", "same z", "no")

    def test_basin_of_anything(self):
        desk = told()
        for at, thing in enumerate(["z", *NO_NAMES, *NO_KEYS]):
            with self.subTest(at=at):
                self.refused(NoBasin, desk.basin, thing, name=thing)
        self.assertEqual(len(desk.journal()), 2 * len(ROWS))


class DeedTest(DeskTestCase):
    def test_each_deed(self):
        desk, basin = Desk(), Basin()
        for row, deed in (
            ("dig a", lambda: basin.dig("a")), ("dig b 5", lambda: basin.dig("b", brim=5)),
            ("dig c 60", lambda: basin.dig("c", brim=60)), ("pipe a b", lambda: basin.pipe("a", "b")),
            ("pipe a b 3", lambda: basin.pipe("a", "b", width=3)), ("pipe b c 2", lambda: basin.pipe("b", "c", width=2)),
            ("pour p a 40", lambda: basin.pour("p", "a", 40)), ("pour q c 0", lambda: basin.pour("q", "c", 0)),
            ("spill a", lambda: basin.spill("a")), ("spill a 3", lambda: basin.spill("a", 3)),
            ("brim c 3", lambda: basin.brim("c", 3)), ("back q", lambda: basin.back("q")),
            ("spill b 2", lambda: basin.spill("b", 2)), ("spill a 6", lambda: basin.spill("a", 6)),
            ("spill b 4", lambda: basin.spill("b", 4)), ("spill c 4", lambda: basin.spill("c", 4)),
            ("back p", lambda: basin.back("p")), ("unspill b a", lambda: basin.unspill(["b", "a"])),
            ("unspill a 2", lambda: basin.unspill(["a"], 2)), ("unspill c b a 2", lambda: basin.unspill(["a", "b", "c"], 2)),
            ("unspill a", lambda: basin.unspill(["a"])), ("cut b c", lambda: basin.cut("b", "c")),
            ("fill c", lambda: basin.fill("c")),
        ):
            with self.subTest(row=row):
                self.assertIsNone(deed())
                self.says(desk, row, "ok")
                self.told_true(desk.basin("main") == basin)

    def test_rest_and_settle(self):
        desk = told()
        self.says(desk, "rest", "a+10 b+6 c+2", "rest", "", "settle", "", "back p", "ok", "rest", "",
                  "pour r c 30", "ok", "settle", "a-10 b-6 c+8", "settle", "")

    def test_refused_as_the_basin_refuses_it(self):
        desk = told()
        for row, error, fields in (
            ("pour p x 3", NoPond, {"name": "x"}), ("pour p a 3", Taken, {"name": "p"}), ("back x", NoPour, {"name": "x"}),
            ("dig a 0", Taken, {"name": "a"}), ("dig z 0", BadBrim, {"name": "z"}), ("dig z 61", BadBrim, {"name": "z"}),
            (f"dig z {GREAT}", BadBrim, {"name": "z"}), ("fill z", NoPond, {"name": "z"}), ("fill a", Joined, {"name": "a"}),
            ("brim z 1", NoPond, {"name": "z"}), ("brim a 0", BadBrim, {"name": "a"}),
            ("brim a 2", TooWide, {"name": "a", "side": "out"}), ("pipe z a", NoPond, {"name": "z"}),
            ("pipe a z", NoPond, {"name": "z"}), ("pipe a a", BadPipe, {"pair": ("a", "a")}),
            ("pipe a c 0", BadPipe, {"pair": ("a", "c")}), ("pipe a c 61", BadPipe, {"pair": ("a", "c")}),
            ("cut z a", NoPond, {"name": "z"}), ("cut c a", NoPipe, {"pair": ("c", "a")}), ("spill z 0", NoPond, {"name": "z"}),
            ("spill a 0", BadTimes, {}), ("spill b 0", BadTimes, {}), ("spill a 11", CantSpill, {"name": "a", "most": 10}),
            ("spill b", CantSpill, {"name": "b", "most": 0}), (f"spill a {GREAT}", CantSpill, {"name": "a", "most": 10}),
            ("unspill z z 0", NotAtRest, {"name": "a"}), ("down", NotAtRest, {"name": "a"}), ("over", NotAtRest, {"name": "a"}),
        ):
            with self.subTest(row=row):
                self.refused_unchanged(error, desk, row, **fields)
        desk.say("rest")
        for row, error, fields in (
            ("unspill z", BadLot, {}), ("unspill a a", BadLot, {}), ("unspill a a 0", BadLot, {}),
            ("unspill a b 0", BadTimes, {}), ("unspill a b", CantUnspill, {"most": 0}),
            (f"unspill c {GREAT}", CantUnspill, {"most": 0}),
        ):
            with self.subTest(row=row):
                self.refused_unchanged(error, desk, row, **fields)
        desk.say_all(["cut a b", "cut b c", "pipe a b 4", "brim b 4"])
        self.refused_unchanged(Closed, desk, "pipe b a 4", names=["a", "b"])
        desk.say("cut a b")
        self.refused_unchanged(Wet, desk, "fill a", name="a")

    def test_sixty_pours_and_thirteen_ponds(self):
        desk = Desk()
        desk.say_all([f"dig {name}" for name in TWELVE])
        self.refused_unchanged(TooMany, desk, "dig m", kind="ponds")
        desk.say_all([f"pour {one}{other} a 1" for one in "abcdefgh" for other in "abcdefgh"][:60])
        self.refused_unchanged(TooMany, desk, "pour x a 1", kind="pours")

    def test_numbers_of_forty_figures(self):
        desk = told(["dig a 60", f"pour p a {GREAT}"])
        self.says(desk, "line", f"a:{GREAT}/60*0", f"spill a {GREAT // 60}", "ok", "text",
                  f"pond a 60 {GREAT // 60}; pour p a {GREAT}", "back p", "ok", "over", f"a+{GREAT // 60}",
                  "down", f"a*{GREAT // 60}", "settle", f"a-{GREAT // 60}")


class AskTest(DeskTestCase):
    def test_line_why_down_over_text(self):
        desk = told()
        text = "pond a 4 0; pond b 5 0; pond c 3 0; pipe a b 3; pipe b c 1; pour p a 40; pour q b 2"
        self.says(desk, "line", "a:40/4*0 b:2/5*0 c:0/3*0", "why", "spill a", "text", text, "rest", "a+10 b+6 c+2",
                  "line", "a:0/4*10 b:2/5*6 c:0/3*2", "why", "settled a b c", "down", "", "over", "",
                  "back p", "ok", "line", "a:-40/4*10 b:2/5*6 c:0/3*2", "why", "unspill a b c",
                  "over", "a+10 b+6 c+2", "down", "a*4 a+b*4 a+b+c*2", "unspill a 4", "ok", "unspill b a 4", "ok",
                  "over", "a+2 b+2 c+2", "down", "a+b+c*2", "unspill a b c 2", "ok", "why", "settled")

    def test_play(self):
        desk = told(["dig a", "dig b", "pour p a 9", "pour q b 4"])
        self.says(desk, "play", "", "line", "a:9/4*0 b:4/4*0", "play 1", "spill b", "line", "a:9/4*0 b:0/4*1",
                  "play 0 0 0 0 0", "spill a; spill a", "line", "a:1/4*2 b:0/4*1", "play 7", "", "back p", "ok", "back q", "ok",
                  "play 1 4", "unspill a b; unspill a", "play 0 0", "", "line", "a:0/4*0 b:0/4*0",
                  "pour p a 8", "ok", "pour q b 8", "ok", f"play {GREAT} {GREAT - 1}", "spill b; spill a")

    def test_asking_changes_nothing(self):
        desk = told([*ROWS, "rest", "back p", "fork z"])
        ahead = seen(desk)
        for row in ("line", "why", "down", "over", "text", "basins", "same z", "play"):
            one = desk.say(row)
            self.assertEqual(desk.say(row), one)
            self.assertEqual(seen(desk), ahead)


class RowTest(DeskTestCase):
    def test_each_form_is_a_row_and_no_other_is(self):
        words = {"A": ["a", "rest", "abcdefgh"], "K": ["0", "7", "9" * 40]}
        for word, forms in FORMS.items():
            for form in ["", "A", "K", "AA", "AK", "KA", "KK", "AAA", "AAK", "AKA", "KAA", "AKK", "KKK", "AAAA", "AAAK",
                         "AAKK", "KKKK", "KAAK", "AAAAK", "AAAKK"]:
                fits = form in forms or word == "unspill" and form in ("AAAA", "AAAAK")
                for at in range(3):
                    row = " ".join([word, *[words[kind][at] for kind in form]])
                    with self.subTest(row=row):
                        self.assertIs(is_row(row), fits)
                        if fits:
                            self.accepted(row)
                        else:
                            self.refused_unchanged(NoRow, told(), row)

    def accepted(self, row):
        """A row is one if it's answered, or refused with something else than NoRow."""
        try:
            told().say(row)
        except WaterError as refusal:
            self.assertNotEqual(refusal.__class__.__name__, "NoRow")

    def test_what_is_no_row(self):
        desk = told()
        for row in ("", " ", "  ", "\n", "a", "main", "ok", "?", "pond a 4 0", "become", "copied", "say line", "Line", "LINE",
                    "line;", "line; line", "new", "new A", "new a1", "new abcdefghi", "new a b", "new main main", "go 1",
                    "go", "gone", "fork", "same", "same main z", "basins main", "dig", "dig a 4 4", "dig a b", "brim a",
                    "brim a four", "pour p a", "pour p a 1 1", "pour p 1 a", "unspill", "unspill 1", "unspill a 1 1",
                    "unspill a 1 b", "unspill a,b", "unspill [a]", "play a", "play 1 a", "play 1,2", "rest a", "rest 1",
                    "settle all", "line a", "why not", "text main", "over a", "down a", "spill", "spill 1", "cut a", "pipe a"):
            with self.subTest(row=row):
                self.assertFalse(is_row(row))
                self.refused_unchanged(NoRow, desk, row)

    def test_blanks_and_line_feeds(self):
        desk = told()
        for row in ("line", "rest", "dig z 4", "pour x a 3", "unspill a b 1", "play 1 2", "new z", "go main"):
            for at in range(len(row) + 1):
                for blank in (" ", "\n", "\t", "\r", "\x0b", "\xa0", "  "):
                    wrong = row[:at] + blank + row[at:]
                    # A blank within a word may part it into two that are a row.
                    if not is_row(wrong):
                        self.refused_unchanged(NoRow, desk, wrong)
            for wrong in (" " + row, row + " ", row.replace(" ", "  ") + " ", row + "\n", "\n" + row, row.replace(" ", "\t") + "\t"):
                self.refused_unchanged(NoRow, desk, wrong)

    def test_numbers(self):
        desk = told()
        for number in ("", "-0", "-1", "+1", "00", "01", "007", "1.0", "1e3", "0x1", "1_000", "1,000", "1" * 41, "9" * 41,
                       "0" + "9" * 40, "\u0661", "\u00b2", "\uff11", "True", "None", "one1", "a1"):
            for row in (f"dig z {number}", f"brim a {number}", f"spill a {number}", f"unspill a {number}",
                        f"play 1 {number}", f"pour x a {number}", f"pipe a b {number}"):
                with self.subTest(row=row):
                    self.refused_unchanged(NoRow, desk, row)
        self.says(desk, f"pour x a {'9' * 40}", "ok", "pour y a 0", "ok", f"pour z a {10 ** 39}", "ok")
        self.assertEqual(desk.basin("main").pours()[2:], [("x", "a", GREAT), ("y", "a", 0), ("z", "a", 10 ** 39)])

    def test_a_row_of_anything(self):
        desk = told()
        for at, thing in enumerate([*NO_TEXTS, ["line"], ("line",), {"line": 1}, b"line", [["line"]]]):
            with self.subTest(at=at):
                self.refused_unchanged(NoRow, desk, thing)
        self.refused(NoRow, desk.say, named={"row": None})
        self.assertEqual(desk.journal()[-2:], ["> ?", "<"])

    def test_by_name(self):
        self.assertEqual(Desk().say(row="basins"), "*main")
        self.assertEqual(Desk().say_all(rows=["basins"]), ["*main"])


class JournalTest(DeskTestCase):
    def test_ahead_and_behind_each_row(self):
        desk = Desk()
        desk.say("dig a")
        self.assertEqual(desk.journal(), ["> dig a", "<"])
        self.refused(Taken, desk.say, "dig a")
        self.refused(NoRow, desk.say, "dig  a")
        self.refused(NoRow, desk.say, "")
        self.refused(NoRow, desk.say, "line\nline")
        self.refused(NoRow, desk.say, None)
        self.assertEqual(desk.journal(), ["> dig a", "<", "> dig a", "<", "> dig  a", "<", "> ", "<", "> line\nline", "<",
                                          "> ?", "<"])

    def test_of_the_desk_whatever_basin_is_at_work(self):
        desk = Desk()
        desk.say_all(["new a", "go main", "gone a"])
        self.assertEqual(desk.journal(), ["> new a", "<", "> go main", "<", "> gone a", "<"])

    def test_other_questions_are_not_in_it(self):
        desk = told()
        ahead = desk.journal()
        desk.basin("main")
        desk.at_work()
        desk.journal()
        desk.say_all([])
        self.refused(NoBasin, desk.basin, "z")
        self.assertEqual(desk.journal(), ahead)


class AllTest(DeskTestCase):
    def test_texts_in_order(self):
        desk = Desk()
        self.assertEqual(desk.say_all(["dig a", "pour p a 9", "rest", "line"]), ["ok", "ok", "a+2", "a:1/4*2"])
        self.assertEqual(desk.say_all(("line", "basins")), ["a:1/4*2", "*main"])
        self.assertIs(desk.say_all(("line",)).__class__, list)

    def test_no_rows(self):
        for rows in ([], ()):
            desk = Desk()
            self.assertEqual(desk.say_all(rows), [])
            self.assertEqual(desk.journal(), [])

    def test_the_first_is_refused(self):
        for wrong in ("fill a", "no such row", None, "", True, [], {}):
            desk = Desk()
            halted = self.refused(Halted, desk.say_all, [wrong, "dig a"], at=0, texts=[])
            self.assertIs(halted.texts.__class__, list)
            self.told_true(desk.basin("main") == Basin())
            self.assertEqual(desk.journal(), [f"> {wrong}" if isinstance(wrong, str) else "> ?", "<"])

    def test_the_last_is_refused(self):
        desk = Desk()
        self.refused(Halted, desk.say_all, ["dig a", "pour p a 9", "line", "dig a"], at=3, texts=["ok", "ok", "a:9/4*0"])
        self.assertEqual(desk.basin("main").pours(), [("p", "a", 9)])
        self.assertEqual(desk.journal(), ["> dig a", "<", "> pour p a 9", "<", "> line", "<", "> dig a", "<"])

    def test_a_middle_one_is_refused(self):
        desk = Desk()
        self.refused(Halted, desk.say_all, ("dig a", 5, "dig b", "dig b"), at=1, texts=["ok"])
        self.assertEqual(desk.basin("main").net().ponds(), ["a"])
        self.assertEqual(desk.journal(), ["> dig a", "<", "> ?", "<"])
        self.refused(Halted, desk.say_all, ["dig b", "new z", "go a", "dig c"], at=2, texts=["ok", "ok"])
        self.assertEqual(desk.at_work(), "z")

    def test_eighty_rows(self):
        desk = Desk()
        rows = ["dig a", *[f"brim a {at % 60 + 1}" for at in range(79)]]
        self.assertEqual(desk.say_all(rows), ["ok"] * 80)
        self.refused(Halted, desk.say_all, [*["line"] * 79, "line "], at=79, texts=["a:0/19*0"] * 79)

    def test_what_is_handed_in_stays_and_what_came_back_is_ones_own(self):
        desk, rows = Desk(), ["dig a", "pour p a 9", "line"]
        texts = desk.say_all(rows)
        self.assertEqual(rows, ["dig a", "pour p a 9", "line"])
        rows.clear()
        texts.clear()
        halted = self.refused(Halted, desk.say_all, ["line", "x"])
        halted.texts.clear()
        again = self.refused(Halted, desk.say_all, ["line", "x"], at=1, texts=["a:9/4*0"])
        self.assertIsNot(again.texts, halted.texts)
        self.assertEqual(desk.say("line"), "a:9/4*0")


class OwnTest(DeskTestCase):
    def test_basins_that_are_told_are_copies(self):
        desk = told()
        for basin in (desk.basin("main"), desk.basin("main")):
            basin.settle()
            basin.back("p")
            basin.dig("z")
        self.told_true(desk.basin("main") == told().basin("main"))
        basin = desk.basin("main")
        desk.say_all(["back p", "settle"])
        self.told_true(basin == told().basin("main"))

    def test_a_journal_that_came_back_has_no_bearing(self):
        desk = told()
        ahead = desk.journal()
        desk.journal().clear()
        desk.journal().append("> x")
        self.assertEqual(desk.journal(), ahead)

    def test_no_desk_knows_of_another_one(self):
        one, other = Desk(), Desk()
        one.say_all(["dig a", "new z", "dig b"])
        self.assertEqual((other.at_work(), other.journal(), other.say("basins")), ("main", [], "*main"))
        self.told_true(other.basin("main") == Basin())


class DrawnTest(DeskTestCase):
    def say_both(self, desk, model, row):
        """The row told to both; the text, or None where it was refused."""
        try:
            text = model.say(row)
        except Refusal as refusal:
            with self.assertRaises(WaterError) as caught:
                desk.say(row)
            self.assertEqual((caught.exception.__class__.__name__, vars(caught.exception)), (refusal.error, refusal.fields))
            return None
        told_text = desk.say(row)
        if row == "why" and text == "settled":
            word, *names = told_text.split(" ")
            self.assertEqual(word, "settled")
            self.told_true(is_row_of_why(desk.basin(desk.at_work()).stand(), names))
        else:
            self.assertEqual((row, told_text), (row, text))
        return told_text

    def check_alike(self, desk, model):
        self.assertEqual((desk.at_work(), desk.journal()), (model.work, model.journal))
        for name, plain in model.basins.items():
            basin = desk.basin(name)
            self.assertEqual((basin.net().brims(), basin.net().pipes()), (plain.brims, plain.pipes))
            self.assertEqual((basin.pours(), basin.counts()), (plain.pour_list(), plain.counts))

    def test_row_by_row_against_the_model(self):
        words = {}
        for seed in range(16):
            chance = random.Random(9000 + seed)
            desk, model = Desk(), DeskModel()
            for _ in range(220):
                row = drawn_row(chance, model)
                text = self.say_both(desk, model, row)
                self.check_alike(desk, model)
                key = row.split(" ")[0], text is not None
                words[key] = words.get(key, 0) + 1
        self.assertEqual({(word, True) for word in FORMS} - set(words), set())
        refusing = set(FORMS) - {"rest", "settle", "line", "why", "text", "basins", "play"}
        self.assertEqual({(word, False) for word in refusing} - set(words), set())

    def rows(self, seed, many):
        """Drawn rows, with what the model tells of each."""
        chance, model = random.Random(seed), DeskModel()
        rows = []
        for _ in range(many):
            row = drawn_row(chance, model)
            try:
                model.say(row)
            except Refusal:
                pass
            rows.append(row)
        return rows

    def answers(self, desk, row):
        try:
            return desk.say(row)
        except WaterError as refusal:
            return refusal.__class__.__name__, sorted(vars(refusal).items())

    def test_two_desks_by_turns_and_one_behind_the_other(self):
        for seed in range(6):
            ones, others = self.rows(9100 + seed, 120), self.rows(9200 + seed, 120)
            one, other = Desk(), Desk()
            turns = [(self.answers(one, row), self.answers(other, another)) for row, another in zip(ones, others)]
            first, second = Desk(), Desk()
            whole = [self.answers(first, row) for row in ones]
            self.assertEqual([turn[0] for turn in turns], whole)
            self.assertEqual([turn[1] for turn in turns], [self.answers(second, row) for row in others])
            self.assertEqual((seen(one), seen(other)), (seen(first), seen(second)))
            self.assertEqual((one.journal(), other.journal()), (first.journal(), second.journal()))

    def test_lists_of_rows_against_rows_one_by_one(self):
        halts = 0
        for seed in range(10):
            rows = self.rows(9300 + seed, 150)
            one, other, at = Desk(), Desk(), 0
            while at < len(rows):
                some = rows[at:at + 10]
                texts, refused = [], None
                for place, row in enumerate(some):
                    answer = self.answers(other, row)
                    if answer.__class__ is tuple:
                        refused = place
                        break
                    texts.append(answer)
                if refused is None:
                    self.assertEqual(one.say_all(some), texts)
                else:
                    self.refused(Halted, one.say_all, some, at=refused, texts=texts)
                    halts += 1
                self.assertEqual((seen(one), one.journal()), (seen(other), other.journal()))
                at += 10 if refused is None else refused + 1
        self.assertGreater(halts, 50)

    def test_whatever_a_desk_was_told_its_settled_basin_is_as_made_anew(self):
        moved = 0
        for seed in range(25):
            desk = Desk()
            for row in self.rows(9400 + seed, 150):
                self.answers(desk, row)
            basin = desk.basin(desk.at_work())
            fresh = Basin(basin.net())
            fresh.become(basin.net(), basin.pours())
            fresh.rest()
            moved += desk.say("settle") != ""
            self.told_true(desk.basin(desk.at_work()) == fresh)
            self.assertEqual(desk.say("over"), "")
        self.assertGreater(moved, 5)


class LargeTest(DeskTestCase):
    def timed(self, desk, row):
        began = time.perf_counter()
        text = desk.say(row)
        self.assertLess(time.perf_counter() - began, SECONDS)
        return text

    def test_twelve_ponds_and_numbers_of_forty_figures(self):
        desk = Desk()
        desk.say_all([f"dig {name} 60" for name in TWELVE])
        desk.say_all([f"pipe {one} {other} {59 + (one != 'l')}" for one, other in zip(TWELVE, TWELVE[1:] + "a")])
        # All counts come to more than what is poured, and a row takes numbers of no more than forty figures.
        amount = GREAT // 100
        desk.say_all([f"pour {name * 2} {name} {amount}" for name in TWELVE])
        self.assertEqual(self.timed(desk, "why"), "spill a")
        counts = settled(desk.basin("main").stand()).counts()
        self.assertEqual(self.timed(desk, "rest"), " ".join(f"{name}+{counts[name]}" for name in TWELVE))
        self.assertEqual(self.timed(desk, "why").split(" ")[0], "settled")
        desk.say_all([f"back {name * 2}" for name in TWELVE[1:]])
        self.timed(desk, "fork z")
        self.assertEqual(self.timed(desk, "rest"), "")
        least = settled(desk.basin("main").stand()).counts()
        self.assertEqual(self.timed(desk, "over"), " ".join(f"{name}+{counts[name] - least[name]}" for name in TWELVE))
        for part in self.timed(desk, "down").split(" "):
            lot, times = part.split("*")
            self.timed(desk, " ".join(["unspill", *lot.split("+"), times]))
        self.assertEqual(desk.basin("main").counts(), least)
        self.assertEqual(self.timed(desk, "same z"), "yes")
        self.assertEqual(self.timed(desk, "play " + " ".join([str(GREAT)] * 80)), "")
        self.timed(desk, "go z")
        self.assertEqual(len(self.timed(desk, "play " + " ".join([str(GREAT)] * 80)).split("; ")), 80)
        self.assertEqual(self.timed(desk, "text").split("; ")[-1], f"pour aa a {amount}")
        self.timed(desk, "settle")
        stand = desk.basin("z").stand()
        self.told_true(stand == Stand(stand.net(), {"a": amount}, least))
        self.assertEqual(unneeded(stand.net(), stand.pours(), stand.counts(), {}), [])

    def test_numbers_of_more_than_forty_figures_that_are_told(self):
        desk = told(["dig a 1", f"pour p a {GREAT}", f"pour q a {GREAT}", f"pour r a {GREAT}"])
        self.says(desk, "line", f"a:{3 * GREAT}/1*0", "rest", f"a+{3 * GREAT}", "over", "", "down", "",
                  "back p", "ok", "over", f"a+{GREAT}", "down", f"a*{GREAT}", "text",
                  f"pond a 1 {3 * GREAT}; pour q a {GREAT}; pour r a {GREAT}")


if __name__ == "__main__":
    unittest.main()
