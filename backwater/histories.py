"""Histories: deeds done one behind the other, any of which can be taken out again."""

from backwater.basins import Basin
from backwater.deeds import check_deed, do_deed, is_of_counts, kept_deed
from backwater.errors import BadPlace, Needed, TooMany, WaterError
from backwater.wholes import is_whole

MOST_DEEDS = 80


def do_again(basin, deed, place):
    """Do a deed that was done at a place of a history once more; refused is that something else is missed."""
    try:
        do_deed(basin, deed)
    except WaterError as refusal:
        raise Needed(place) from refusal


class History:
    """Deeds, and the basin on which they were done, which was without ponds at first."""

    def __init__(self):
        self.own_basin = Basin()
        self.done_deeds = []

    def do(self, deed):
        """Do a deed, unless it is refused; what the basin tells."""
        check_deed(deed)
        if len(self.done_deeds) >= MOST_DEEDS:
            raise TooMany("deeds")
        told = do_deed(self.own_basin, deed)
        self.done_deeds.append(kept_deed(deed))
        return told

    def deeds(self):
        """All deeds, in order, their lots as tuples."""
        return list(self.done_deeds)

    def basin(self):
        """A basin like its own."""
        return self.own_basin.copied()

    def without(self, at):
        """A settled basin on which all deeds but the one at a place were done."""
        if not is_whole(at, 0) or at >= len(self.done_deeds):
            raise BadPlace("a place is a whole number from 0 on, below the number of deeds")
        basin = Basin()
        for place, deed in enumerate(self.done_deeds):
            # Deeds of counts leave nothing in what is settled, and might be refused now though nothing is missed.
            if place != at and not is_of_counts(deed):
                do_again(basin, deed, place)
        basin.settle()
        return basin

    def lift(self, at):
        """Take out the deed at a place: the basin has, settled, what it has without it."""
        left = self.without(at)
        self.own_basin.become(left.net(), left.pours())
        self.own_basin.settle()
        del self.done_deeds[at]

    def __len__(self):
        return len(self.done_deeds)
