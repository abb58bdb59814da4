"""The plain, slow reckoning of what the document says, over dicts, and nets drawn in a fixed way."""

import itertools
import random

from backwater.errors import NetError
from backwater.nets import Net
from backwater.stands import Stand
from tests.things import GREAT, TWELVE


def lots_of(names):
    """All lists of one or more of these ponds, sorted."""
    names = sorted(names)
    return [list(lot) for size in range(1, len(names) + 1) for lot in itertools.combinations(names, size)]


def waters_of(net, poured, counts):
    """Point 8's water, reckoned with counts of any kind, also fractions and below 0."""
    pipes = net.pipes()
    return {
        name: poured.get(name, 0) - brim * counts.get(name, 0)
        + sum(width * counts.get(one, 0) for (one, other), width in pipes.items() if other == name)
        for name, brim in net.brims().items()
    }


def full_ponds(net, poured, counts):
    waters = waters_of(net, poured, counts)
    return [name for name, brim in sorted(net.brims().items()) if waters[name] >= brim]


def rested_one_by_one(net, poured, counts, choose):
    """The counts come to by spilling, each time, the one full pond that choose takes of them."""
    counts = {name: counts.get(name, 0) for name in net.brims()}
    full = full_ponds(net, poured, counts)
    while full:
        counts[choose(full)] += 1
        full = full_ponds(net, poured, counts)
    return counts


def schedules(seed):
    """Several ways to take one of the ponds that can spill."""
    chance = random.Random(seed)
    turns = itertools.count()
    return [
        lambda full: full[0],
        lambda full: full[-1],
        lambda full: full[next(turns) % len(full)],
        chance.choice,
    ]


def boxes(low, high):
    """All counts that are, pond by pond, from low to high."""
    names = sorted(low)
    for worths in itertools.product(*[range(low[name], high[name] + 1) for name in names]):
        yield dict(zip(names, worths))


def no_more(one, other):
    """Whether one is, pond by pond, no more than the other."""
    return all(one[name] <= other[name] for name in one)


def can_be_unspilled(net, poured, counts, lot):
    """Point 14's words, of counts at rest."""
    if any(counts.get(name, 0) == 0 for name in lot):
        return False
    less = {name: counts.get(name, 0) - (name in lot) for name in net.brims()}
    return not set(lot) & set(full_ponds(net, poured, less))


def unspilled_one_by_one(net, poured, counts, lot):
    """How many times a lot can be unspilled, one behind the other."""
    times = 0
    while can_be_unspilled(net, poured, counts, lot):
        counts = {name: counts.get(name, 0) - (name in lot) for name in net.brims()}
        times += 1
    return times


def union_of_lots(net, poured, counts, without=()):
    """All ponds of all lots that can be unspilled and have none of these."""
    names = [name for name in net.brims() if name not in without]
    return sorted({name for lot in lots_of(names) if can_be_unspilled(net, poured, counts, lot) for name in lot})


def plain_moves(net, poured, counts):
    """Point 21's words, over all lots."""
    full = full_ponds(net, poured, counts)
    if full:
        return [("spill", name) for name in full]
    lots = []
    for without in [[], *[[name] for name in net.brims()]]:
        lot = union_of_lots(net, poured, counts, without)
        if lot and lot not in lots:
            lots.append(lot)
    return sorted(("unspill", lot) for lot in lots)


def plain_way(above):
    """Point 20's way down of ponds that are so much over, step by step."""
    left, way = dict(above), []
    while any(left.values()):
        most = max(left.values())
        lot = sorted(name for name in left if left[name] == most)
        times = most - max((many for many in left.values() if many < most), default=0)
        left.update({name: most - times for name in lot})
        way.append((lot, times))
    return way


def tells_why(net, poured, counts, row):
    """Point 16's words of a row of ponds."""
    if full_ponds(net, poured, counts) or sorted(row) != sorted(name for name in net.brims() if counts.get(name, 0) > 0):
        return False
    waters = waters_of(net, poured, counts)
    pipes = net.pipes()
    return all(
        waters[name] >= sum(pipes.get((other, name), 0) for other in row[at + 1:]) for at, name in enumerate(row)
    )


def unneeded(net, poured, counts, low):
    """Ponds above low whose counts could be one less together; none just where counts are the least quiet ones.

    Goes by taking out, again and again, a pond that the others would leave full.
    """
    waters = waters_of(net, poured, counts)
    lot = {name for name in counts if counts[name] > low.get(name, 0)}
    changed = True
    while changed:
        kept = {name for name in lot if waters[name] < sum(width for one, width in net.ins(name) if one in lot)}
        changed = kept != lot
        lot = kept
    return sorted(lot)


def drawn_net(chance, names, brims, dense):
    """A net of these ponds, with brims from those given; dense is how many pipes there are, out of 10."""
    while True:
        brim = {name: chance.choice(brims) for name in names}
        out, into = dict(brim), dict(brim)
        pipes = {}
        pairs = [(one, other) for one in names for other in names if one != other and chance.randrange(10) < dense]
        chance.shuffle(pairs)
        for one, other in pairs:
            most = min(out[one], into[other])
            if most > 0:
                pipes[one, other] = chance.choice([1, most, chance.randint(1, most)])
                out[one] -= pipes[one, other]
                into[other] -= pipes[one, other]
        try:
            return Net(brim, pipes)
        except NetError:
            # Drawn again: a ring from which no way out leads.
            continue


def small_stands(seed, many):
    """Stands of none to four ponds, with small numbers: some rest, some are settled, some owe."""
    chance = random.Random(seed)
    for _ in range(many):
        names = "abcd"[:chance.choice([0, 1, 2, 2, 3, 3, 3, 4, 4, 4])]
        net = drawn_net(chance, names, [1, 2, 3, 4, 5], chance.choice([3, 6, 9]))
        poured = {name: chance.choice([0, chance.randrange(5), chance.randrange(14)]) for name in names}
        counts = {name: chance.choice([0, chance.randrange(3), chance.randrange(6)]) for name in names}
        yield Stand(net, poured, chance.choice([{}, counts, counts]))


def ring(brim, soaks, names=TWELVE):
    """A ring in which the last pond alone soaks."""
    pipes = {(one, other): brim for one, other in zip(names, names[1:])}
    pipes[names[-1], names[0]] = brim - soaks
    return Net(dict.fromkeys(names, brim), pipes)


def pairs(width):
    """Six pairs in a row, joined in themselves by this width and to each other by what is left of sixty."""
    pipes = {}
    for at, (one, other) in enumerate(zip(TWELVE, TWELVE[1:])):
        pipes[one, other] = pipes[other, one] = 60 - width if at % 2 else width
    return Net({**dict.fromkeys(TWELVE, 60), "a": width, "l": width + 1}, pipes)


def large_nets():
    """Nets of twelve ponds, rings that hardly soak and narrow ones among them."""
    chance = random.Random(12)
    rings = [ring(60, 1), ring(60, 1, TWELVE[::-1]), ring(59, 1), ring(2, 1), ring(60, 59)]
    chains = [pairs(59), pairs(1), pairs(30), pairs(53), Net(dict.fromkeys(TWELVE, 1))]
    drawn = [drawn_net(chance, TWELVE, [60, 60, 60, 59, 7, 1], dense) for dense in (1, 2, 3, 5, 7, 9, 10, 10)]
    return rings + chains + drawn


def large_stands():
    """Stands with numbers of forty figures: dry ones, and ones that owe much."""
    chance = random.Random(40)
    for net in large_nets():
        yield Stand(net, dict.fromkeys(TWELVE, GREAT))
        yield Stand(net, {"a": GREAT})
        yield Stand(net, {"g": GREAT, "a": 3}, {"a": GREAT // 7, "l": GREAT})
        for _ in range(3):
            poured = {name: chance.choice([0, chance.randrange(60), chance.randrange(GREAT)]) for name in TWELVE}
            counts = {name: chance.choice([0, chance.randrange(60), chance.randrange(GREAT)]) for name in TWELVE}
            yield Stand(net, poured, counts)
