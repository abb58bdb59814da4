"""Every refusal of the program, each with the fields that tell what was refused.

A message shows a field only where that is a NAME or a small number for certain: what may be
anything, and a number of any size, stays in the field, since it might not let itself be shown.
"""


class WaterError(ValueError):
    """Whatever the program refuses."""


class NetError(WaterError):
    """Refused of nets, names and ponds."""


class StandError(WaterError):
    """Refused of stands, spills and lots."""


class BasinError(WaterError):
    """Refused of basins, histories and desks."""


class NoText(WaterError):
    """No text of a basin."""


class NoRow(WaterError):
    """No row for a desk."""


class BadPick(WaterError):
    """No list of picks."""


class Halted(WaterError):
    """A row of several was refused: at is its place, texts what was told ahead of it."""

    def __init__(self, at, texts):
        super().__init__(f"halted at row {at}")
        self.at = at
        self.texts = texts


class NoNet(NetError):
    """What a net is to be made of is no dict."""


class BadName(NetError):
    """Something that is no NAME."""

    def __init__(self, name):
        super().__init__("no name of one to eight letters a to z")
        self.name = name


class TooMany(NetError):
    """More of a kind than there may be."""

    def __init__(self, kind):
        super().__init__(f"too many {kind}")
        self.kind = kind


class BadBrim(NetError):
    """A pond whose brim is none."""

    def __init__(self, name):
        super().__init__(f"no brim for pond {name}")
        self.name = name


class BadPipe(NetError):
    """A pipe between what are no two unlike ponds, or whose width is none."""

    def __init__(self, pair):
        super().__init__("no pipe between two unlike ponds, or no width for it")
        self.pair = pair


class TooWide(NetError):
    """A pond of which more than its brim goes out or comes in."""

    def __init__(self, name, side):
        super().__init__(f"pipes of pond {name} are too wide: {side}")
        self.name = name
        self.side = side


class Closed(NetError):
    """Ponds from which no way out leads."""

    def __init__(self, names):
        super().__init__(f"no way out leads from {names}")
        self.names = names


class NoPond(NetError):
    """Something that is no pond of the net."""

    def __init__(self, name):
        super().__init__("no pond of the net")
        self.name = name


class BadPoured(StandError):
    """No amounts poured into ponds; name is the wrong key, None where there is no dict."""

    def __init__(self, name):
        super().__init__("no dict from ponds to poured amounts from 0 on")
        self.name = name


class BadCount(StandError):
    """No counts of ponds; name is the wrong key, None where there is no dict."""

    def __init__(self, name):
        super().__init__("no dict from ponds to counts from 0 on")
        self.name = name


class BadTimes(StandError):
    """Times that are no whole number from 1 on."""


class CantSpill(StandError):
    """A pond that can't spill so many times."""

    def __init__(self, name, most):
        super().__init__(f"pond {name} can't spill so many times")
        self.name = name
        self.most = most


class NotAtRest(StandError):
    """A stand that isn't at rest; name is the first pond that can spill."""

    def __init__(self, name):
        super().__init__(f"not at rest: pond {name} can spill")
        self.name = name


class BadLot(StandError):
    """Something that is no lot."""


class CantUnspill(StandError):
    """A lot that can't be unspilled so many times."""

    def __init__(self, most):
        super().__init__("the lot can't be unspilled so many times")
        self.most = most


class BadAmount(BasinError):
    """An amount that is no whole number from 0 on."""


class BadPour(BasinError):
    """No list of pours."""


class Taken(BasinError):
    """A name that is there already."""

    def __init__(self, name):
        super().__init__(f"the name {name} is taken")
        self.name = name


class NoPour(BasinError):
    """A name that no pour has."""

    def __init__(self, name):
        super().__init__(f"no pour is called {name}")
        self.name = name


class Joined(BasinError):
    """A pond to which or from which a pipe leads."""

    def __init__(self, name):
        super().__init__(f"a pipe leads to or from pond {name}")
        self.name = name


class Wet(BasinError):
    """A pond into which something is poured."""

    def __init__(self, name):
        super().__init__(f"a pour is at pond {name}")
        self.name = name


class NoPipe(BasinError):
    """Two ponds between which no pipe leads."""

    def __init__(self, pair):
        super().__init__("no pipe leads from the one to the other")
        self.pair = pair


class BadDeed(BasinError):
    """Something that is no deed."""


class BadPlace(BasinError):
    """Something that is no place in a history."""


class Needed(BasinError):
    """A deed without which a later one, at that place, is refused."""

    def __init__(self, at):
        super().__init__(f"the deed at place {at} needs it")
        self.at = at


class NoBasin(BasinError):
    """A name that no basin has."""

    def __init__(self, name):
        super().__init__("no basin has that name")
        self.name = name


class AtWork(BasinError):
    """The basin that is at work."""

    def __init__(self, name):
        super().__init__(f"the basin {name} is at work")
        self.name = name
