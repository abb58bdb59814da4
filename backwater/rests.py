"""Rest: the one stand at rest to which spills lead, and the one to which they lead from counts of 0."""

from backwater.shares import least_tops
from backwater.spills import at_rest
from backwater.stands import Stand


def leapt(stand):
    """The stand with the least counts in fractions at which all would rest, each rounded up."""
    tops, bottom = least_tops(stand.net(), stand.waters())
    counts = stand.counts()
    for name in tops:
        counts[name] += -(-tops[name] // bottom)
    return Stand(stand.net(), stand.pours(), counts)


def sweep(brims, outs, waters, counts):
    """Spill each pond, one after the other, as often as it can, in these waters and counts."""
    for name in brims:
        times = max(0, waters[name] // brims[name])
        counts[name] += times
        waters[name] -= brims[name] * times
        for other, width in outs[name]:
            waters[other] += width * times


def swept(stand):
    """The stand at rest to which sweeps lead."""
    net = stand.net()
    brims = net.brims()
    outs = {name: net.outs(name) for name in brims}
    waters = stand.waters()
    counts = stand.counts()
    while any([waters[name] >= brims[name] for name in brims]):
        sweep(brims, outs, waters, counts)
    return Stand(net, stand.pours(), counts)


def rested(stand):
    """The stand at rest to which spills lead."""
    # Whole counts at which all rests are no less than the least ones in fractions, so the leap never goes too far.
    # Behind it no water is twice its brim, so what is left to sweep does not grow with the numbers.
    return swept(leapt(stand))


def dry(stand):
    """The stand with counts 0."""
    return Stand(stand.net(), stand.pours())


def settled(stand):
    """The dry stand rested."""
    return rested(dry(stand))


def is_quiet(net, poured, counts):
    """Whether the stand with these counts is at rest."""
    return at_rest(Stand(net, poured, counts))
