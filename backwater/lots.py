"""Lots: ponds that are unspilled at once."""

from backwater.errors import BadLot, CantUnspill
from backwater.spills import check_at_rest, check_times
from backwater.stands import Stand


def is_lot(net, thing):
    """Whether a thing of any kind is a lot of a net."""
    if not isinstance(thing, (list, tuple)) or len(thing) == 0:
        return False
    # Told unlike only once all are ponds: what is no text may have no place in a set at all.
    return all([net.has_pond(name) for name in thing]) and len(set(thing)) == len(thing)


def check_lot(net, thing):
    """Refuse what is no lot of a net, of any kind."""
    if not is_lot(net, thing):
        raise BadLot("a lot is a list of one or more unlike ponds of the net")


def width_from(net, lot, name):
    """All widths, together, of pipes into a pond from those of a lot."""
    return sum([width for one, width in net.ins(name) if one in lot])


def most_of_pond(stand, lot, name):
    """How many times a lot can be unspilled so far as one of its ponds has a bearing on it."""
    brim = stand.net().brim(name)
    gained = brim - width_from(stand.net(), lot, name)
    if gained == 0:
        return stand.count(name)
    return min(stand.count(name), (brim - 1 - stand.water(name)) // gained)


def most_unspills(stand, lot):
    """How many times a lot can be unspilled, one behind the other."""
    check_at_rest(stand)
    check_lot(stand.net(), lot)
    return min([most_of_pond(stand, lot, name) for name in lot])


def can_unspill(stand, lot, times=1):
    """Whether a lot can be unspilled so many times."""
    most = most_unspills(stand, lot)
    check_times(times)
    return times <= most


def unspilled(stand, lot, times=1):
    """The stand in which a lot is unspilled so many times."""
    if not can_unspill(stand, lot, times):
        raise CantUnspill(most_unspills(stand, lot))
    counts = stand.counts()
    for name in lot:
        counts[name] -= times
    return Stand(stand.net(), stand.pours(), counts)


def those_at_rest(stand, lot):
    """The ponds of a lot that can't spill once it is unspilled."""
    return [name for name in lot if stand.water(name) < width_from(stand.net(), lot, name)]


def greatest_lot(stand, *, without=()):
    """The lot of all ponds that are in some lot that can be unspilled, none of these ponds in it; sorted."""
    check_at_rest(stand)
    net = stand.net()
    # Only ponds are compared: what else stands there may not let itself be compared.
    left_out = [thing for thing in without if net.has_pond(thing)]
    kept = [name for name in net.ponds() if stand.count(name) > 0 and name not in left_out]
    lot = []
    # A pond that would spill in the greater lot would in any less one, too, so it can be left out for good.
    while len(kept) != len(lot):
        lot = kept
        kept = those_at_rest(stand, lot)
    return lot
