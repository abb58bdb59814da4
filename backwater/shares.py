"""Shares: counts in fractions, the least ones that leave no pond more than its brim less one."""

from backwater.stands import Stand


def common_divisor(one, other):
    """The greatest common divisor of two numbers from 0 on that are not both 0."""
    while other:
        one, other = other, one % other
    return one


def fraction(top, bottom):
    """A fraction without a common divisor above 1."""
    divisor = common_divisor(top, bottom)
    return top // divisor, bottom // divisor


def balance_row(net, waters, name):
    """A pond's equation: how much each pond's count takes from its water and, last, how much has to be taken."""
    row = [-net.width(other, name) for other in net.ponds()]
    row[net.ponds().index(name)] = net.brim(name)
    row.append(waters[name] - (net.brim(name) - 1))
    return row


def solved_for(rows, at, bottom):
    """The rows, solved for one more unknown, the one at this place; bottom is what they were solved over so far."""
    # No fractions are needed on the way (Bareiss): each entry is a minor of the first rows, so nothing is left over.
    pivot = rows[at]
    solved = [[(entry * pivot[at] - row[at] * part) // bottom for entry, part in zip(row, pivot)] for row in rows]
    solved[at] = pivot
    return solved


def still_over(rows, spilt):
    """The places of rows, none of them spilt, of whose water something still has to be taken."""
    return [at for at in range(len(rows)) if at not in spilt and rows[at][-1] > 0]


def least_tops(net, waters):
    """The least counts in fractions that leave each of these waters at most its brim less one.

    A tuple: a dict from each pond to a top, and the bottom for all of them. Waters may be below 0.
    """
    ponds = net.ponds()
    rows = [balance_row(net, waters, name) for name in ponds]
    bottom = 1
    spilt = []
    over = still_over(rows, spilt)
    # Spills of others only bring water, so a pond that had to spill once has to whatever comes:
    # none is ever taken out of spilt again, and there are at most as many rounds as ponds.
    while over:
        at = over[0]
        rows = solved_for(rows, at, bottom)
        bottom = rows[at][at]
        spilt.append(at)
        over = still_over(rows, spilt)
    tops = {name: rows[at][-1] if at in spilt else 0 for at, name in enumerate(ponds)}
    return tops, bottom


def shares(net, poured):
    """A dict from each pond to its share, a tuple (top, bottom)."""
    tops, bottom = least_tops(net, Stand(net, poured).pours())
    return {name: fraction(tops[name], bottom) for name in tops}
