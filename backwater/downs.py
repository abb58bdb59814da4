"""Ways down: the lots, each so many times, by which a stand at rest comes to where it's settled."""

from backwater.rests import settled
from backwater.spills import check_at_rest


def over(stand):
    """A dict from each pond to how much its count is above that of the settled stand."""
    check_at_rest(stand)
    least = settled(stand)
    return {name: stand.count(name) - least.count(name) for name in stand.net().ponds()}


def way_down(stand):
    """The way down from a stand at rest, a list of tuples (lot, times)."""
    above = over(stand)
    way = []
    below = 0
    for level in sorted({above[name] for name in above if above[name] > 0}):
        way.append(([name for name in above if above[name] >= level], level - below))
        below = level
    return way[::-1]
