"""Deeds: what is done to a basin, told as a tuple of a word and the things that the basin is handed."""

from backwater.errors import BadDeed


def do_pour(basin, deed):
    """Pour an amount into a pond, by a name."""
    basin.pour(deed[1], deed[2], deed[3])


def do_back(basin, deed):
    """Take a pour back."""
    basin.back(deed[1])


def do_dig(basin, deed):
    """Add a pond with a brim."""
    basin.dig(deed[1], brim=deed[2])


def do_fill(basin, deed):
    """Take away a pond."""
    basin.fill(deed[1])


def do_brim(basin, deed):
    """Give a pond a brim."""
    basin.brim(deed[1], deed[2])


def do_pipe(basin, deed):
    """Lay a pipe of a width."""
    basin.pipe(deed[1], deed[2], width=deed[3])


def do_cut(basin, deed):
    """Take away a pipe."""
    basin.cut(deed[1], deed[2])


def do_spill(basin, deed):
    """Spill a pond so many times."""
    basin.spill(deed[1], deed[2])


def do_unspill(basin, deed):
    """Unspill a lot so many times."""
    basin.unspill(deed[1], deed[2])


def do_rest(basin, deed):
    """Spill till it's at rest."""
    return basin.rest()


def do_settle(basin, deed):
    """Spill and unspill till it's settled."""
    return basin.settle()


ACTIONS = {
    "pour": do_pour, "back": do_back, "dig": do_dig, "fill": do_fill, "brim": do_brim, "pipe": do_pipe, "cut": do_cut,
    "spill": do_spill, "unspill": do_unspill, "rest": do_rest, "settle": do_settle,
}
LENGTHS = {
    "pour": 4, "back": 2, "dig": 3, "fill": 2, "brim": 3, "pipe": 4, "cut": 3, "spill": 3, "unspill": 3, "rest": 1,
    "settle": 1,
}
OF_COUNTS = ("spill", "unspill", "rest", "settle")


def is_deed(thing):
    """Whether a thing of any kind is a tuple of such a word and of as many things."""
    if not isinstance(thing, tuple) or len(thing) == 0 or not isinstance(thing[0], str):
        return False
    return thing[0] in LENGTHS and len(thing) == LENGTHS[thing[0]]


def check_deed(thing):
    """Refuse what is no deed, of any kind."""
    if not is_deed(thing):
        raise BadDeed("a deed is a tuple of its word and of as many things as go with it")


def do_deed(basin, deed):
    """Do a deed on a basin; what the basin tells."""
    action = ACTIONS[deed[0]]
    return action(basin, deed)


def kept_deed(deed):
    """A deed that was done, as nobody can change it any more: its lot is a tuple."""
    if deed[0] == "unspill":
        return deed[0], tuple(deed[1]), deed[2]
    return tuple(deed)


def is_of_counts(deed):
    """Whether a deed changes counts alone."""
    return deed[0] in OF_COUNTS
