"""A desk: basins by name, one of them at work, told what to do and to tell in rows of words."""

from backwater.basins import Basin
from backwater.deeds import do_deed
from backwater.downs import over, way_down
from backwater.errors import AtWork, Halted, NoBasin, Taken, TooMany, WaterError
from backwater.lines import more_line, paper_line, stand_line, way_line
from backwater.nets import is_name
from backwater.plays import played
from backwater.rows import deed_of, parts_of
from backwater.texts import basin_text
from backwater.whys import paper

MOST_BASINS = 12


def say_new(desk, parts):
    """Have one more basin, without ponds; it's at work then."""
    desk.add_basin(parts[1], Basin())
    desk.put_to_work(parts[1])
    return "ok"


def say_fork(desk, parts):
    """Have one more basin like that at work, which stays at work."""
    desk.add_basin(parts[1], desk.working().copied())
    return "ok"


def say_go(desk, parts):
    """Put a basin to work."""
    desk.put_to_work(parts[1])
    return "ok"


def say_gone(desk, parts):
    """Have a basin no more."""
    desk.drop_basin(parts[1])
    return "ok"


def say_line(desk, parts):
    """The line of the stand."""
    return stand_line(desk.working().stand())


def say_why(desk, parts):
    """The line of the paper."""
    return paper_line(paper(desk.working().stand()))


def say_down(desk, parts):
    """The line of the way down."""
    return way_line(way_down(desk.working().stand()))


def say_over(desk, parts):
    """How much each pond that is over is."""
    return more_line(over(desk.working().stand()))


def say_text(desk, parts):
    """The basin's text, in one row."""
    return basin_text(desk.working()).replace("\n", "; ")


def say_basins(desk, parts):
    """The names of all basins."""
    return " ".join(["*" + name if name == desk.at_work() else name for name in desk.names_of_basins()])


def say_same(desk, parts):
    """Whether a basin's net and pours are alike to those of the one at work."""
    other = desk.found_basin(parts[1])
    same = other.net() == desk.working().net() and other.pours() == desk.working().pours()
    return "yes" if same else "no"


def say_play(desk, parts):
    """Play by picks; the moves."""
    stand, done = played(desk.working().stand(), parts[1:])
    desk.working().come_to(stand)
    return "; ".join([paper_line(move) for move in done])


def say_deed(desk, parts):
    """Do a deed on the basin at work."""
    told = do_deed(desk.working(), deed_of(parts))
    return "ok" if told is None else more_line(told)


ANSWERS = {
    "new": say_new, "fork": say_fork, "go": say_go, "gone": say_gone, "line": say_line, "why": say_why,
    "down": say_down, "over": say_over, "text": say_text, "basins": say_basins, "same": say_same, "play": say_play,
}


def answer(desk, parts):
    """Do what the parts of a row ask for; the text to tell."""
    if parts[0] in ANSWERS:
        action = ANSWERS[parts[0]]
        return action(desk, parts)
    return say_deed(desk, parts)


class Desk:
    """Basins by name, one of them at work, and a journal of all rows that were told."""

    def __init__(self):
        self.basin_by_name = {"main": Basin()}
        self.name_at_work = "main"
        self.journal_texts = []

    def say(self, row):
        """Work on one row; the text that it tells."""
        self.journal_texts.append("> " + row if isinstance(row, str) else "> ?")
        try:
            return answer(self, parts_of(row))
        finally:
            self.journal_texts.append("<")

    def say_all(self, rows):
        """Work on rows, one after the other, till one is refused; the texts that they tell."""
        texts = []
        for at, row in enumerate(rows):
            try:
                texts.append(self.say(row))
            except WaterError as refusal:
                raise Halted(at, texts) from refusal
        return texts

    def journal(self):
        """The marks of all rows that were worked on."""
        return list(self.journal_texts)

    def at_work(self):
        """The name of the basin at work."""
        return self.name_at_work

    def basin(self, name):
        """A basin like the one of this name."""
        return self.found_basin(name).copied()

    def working(self):
        """The basin at work itself."""
        return self.basin_by_name[self.name_at_work]

    def found_basin(self, name):
        """The basin of this name itself; refused is what is no name of one, of any kind."""
        if not is_name(name) or name not in self.basin_by_name:
            raise NoBasin(name)
        return self.basin_by_name[name]

    def names_of_basins(self):
        """The names of all basins, sorted."""
        return sorted(self.basin_by_name)

    def add_basin(self, name, basin):
        """Have one more basin, by this name."""
        if name in self.basin_by_name:
            raise Taken(name)
        if len(self.basin_by_name) >= MOST_BASINS:
            raise TooMany("basins")
        self.basin_by_name[name] = basin

    def put_to_work(self, name):
        """Put the basin of this name to work."""
        self.found_basin(name)
        self.name_at_work = name

    def drop_basin(self, name):
        """Have the basin of this name no more."""
        self.found_basin(name)
        if name == self.name_at_work:
            raise AtWork(name)
        del self.basin_by_name[name]
