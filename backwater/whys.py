"""Rows of why, which tell that a stand is settled, and papers, which tell of any stand what is left to do."""

from backwater.lots import can_unspill, greatest_lot, is_lot, those_at_rest, width_from
from backwater.spills import at_rest, can_spill, check_at_rest, spilling


def spilt_ponds(stand):
    """All ponds whose count is above 0, sorted."""
    return [name for name in stand.net().ponds() if stand.count(name) > 0]


def row_of_why(stand):
    """A row of why of a stand at rest, or None."""
    check_at_rest(stand)
    row = []
    left = spilt_ponds(stand)
    # A pond that may stand ahead of all that are left may do so ahead of fewer, too: none has to be tried elsewhere.
    while left:
        kept = those_at_rest(stand, left)
        if len(kept) == len(left):
            return None
        row.extend([name for name in left if name not in kept])
        left = kept
    return row


def is_row_of_why(stand, row):
    """Whether a thing of any kind is a row of why of a stand."""
    net = stand.net()
    if not at_rest(stand) or not isinstance(row, (list, tuple)):
        return False
    # Sorted only once all are ponds: what is no text may not let itself be compared.
    if not all([net.has_pond(name) for name in row]) or sorted(row) != spilt_ponds(stand):
        return False
    return all([stand.water(name) >= width_from(net, row[at + 1:], name) for at, name in enumerate(row)])


def is_settled(stand):
    """Whether a stand is its own settled one."""
    return at_rest(stand) and row_of_why(stand) is not None


def paper(stand):
    """The paper told of a stand: a pond that can spill, else the greatest lot, else a row of why."""
    ponds = spilling(stand)
    if ponds:
        return "spill", ponds[0]
    lot = greatest_lot(stand)
    if lot:
        return "unspill", lot
    return "settled", row_of_why(stand)


def holds(stand, paper):
    """Whether a thing of any kind is a paper of a stand."""
    if not isinstance(paper, tuple) or len(paper) != 2 or not isinstance(paper[0], str):
        return False
    word, told = paper
    net = stand.net()
    if word == "spill":
        return net.has_pond(told) and can_spill(stand, told)
    if word == "unspill":
        return at_rest(stand) and is_lot(net, told) and can_unspill(stand, told)
    return word == "settled" and is_row_of_why(stand, told)
