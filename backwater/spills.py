"""Spills: which ponds can spill and how often, and what has soaked away."""

from backwater.errors import BadTimes, CantSpill, NotAtRest
from backwater.stands import Stand
from backwater.wholes import is_whole


def check_times(times):
    """Refuse times of any kind that are no whole number from 1 on."""
    if not is_whole(times, 1):
        raise BadTimes("times are a whole number from 1 on")


def check_at_rest(stand):
    """Refuse a stand that isn't at rest."""
    ponds = spilling(stand)
    if ponds:
        raise NotAtRest(ponds[0])


def most_spills(stand, name):
    """How many times a pond can spill, one behind the other."""
    return max(0, stand.water(name) // stand.net().brim(name))


def can_spill(stand, name, times=1):
    """Whether a pond can spill so many times."""
    most = most_spills(stand, name)
    check_times(times)
    return times <= most


def spilling(stand):
    """The ponds that can spill, sorted."""
    return [name for name in stand.net().ponds() if most_spills(stand, name) > 0]


def at_rest(stand):
    """Whether no pond can spill."""
    return len(spilling(stand)) == 0


def spilled(stand, name, times=1):
    """The stand in which a pond has spilled so many times more."""
    if not can_spill(stand, name, times):
        raise CantSpill(name, most_spills(stand, name))
    counts = stand.counts()
    counts[name] += times
    return Stand(stand.net(), stand.pours(), counts)


def soaked(stand):
    """All that has soaked away, over all ponds together."""
    net = stand.net()
    return sum([net.soaks(name) * stand.count(name) for name in net.ponds()])
