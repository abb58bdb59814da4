"""Plays: moves of a stand, and stands come to by picks among them."""

from backwater.errors import BadPick
from backwater.lots import greatest_lot, unspilled
from backwater.spills import spilled, spilling
from backwater.wholes import is_whole


def lots_to_pick(stand):
    """The greatest lot of a stand at rest, and those without one pond, sorted, each once, the empty one left out."""
    whole = greatest_lot(stand)
    # Without a pond that isn't in it the greatest lot is the same.
    lots = [whole] + [greatest_lot(stand, without=[name]) for name in whole]
    return [list(lot) for lot in sorted({tuple(lot) for lot in lots if lot})]


def moves(stand):
    """The moves of a stand: all spills, or, at rest, the lots to pick from."""
    ponds = spilling(stand)
    if ponds:
        return [("spill", name) for name in ponds]
    return [("unspill", lot) for lot in lots_to_pick(stand)]


def moved(stand, move):
    """The stand in which a move is done once."""
    word, told = move
    if word == "spill":
        return spilled(stand, told)
    return unspilled(stand, told)


def check_picks(picks):
    """Refuse what is no list of whole numbers from 0 on, of any kind."""
    if not isinstance(picks, (list, tuple)) or not all([is_whole(pick, 0) for pick in picks]):
        raise BadPick("picks are a list of whole numbers from 0 on")


def played(stand, picks):
    """A tuple: the stand come to by picks, and the list of moves done."""
    check_picks(picks)
    done = []
    for pick in picks:
        choices = moves(stand)
        if not choices:
            break
        move = choices[pick % len(choices)]
        stand = moved(stand, move)
        done.append(move)
    return stand, done
