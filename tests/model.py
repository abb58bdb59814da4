"""An own, plain model of a basin, over dicts, to hold the program's basins, histories and desks against."""

import re

from tests.plain import (
    can_be_unspilled, full_ponds, lots_of, rested_one_by_one, unspilled_one_by_one, waters_of,
)
from tests.things import GREAT


class Refusal(Exception):
    """What the program has to refuse: the name of the error class and its fields."""

    def __init__(self, error, **fields):
        super().__init__(error)
        self.error = error
        self.fields = fields


class PlainNet:
    """Two dicts, asked like a net."""

    def __init__(self, brims, pipes):
        self.own = (dict(brims), dict(pipes))

    def brims(self):
        return dict(self.own[0])

    def pipes(self):
        return dict(self.own[1])


def is_int(thing, low, high=None):
    return type(thing) is int and thing >= low and (high is None or thing <= high)


def is_a_name(thing):
    return type(thing) is str and re.fullmatch("[a-z]{1,8}", thing) is not None and "\n" not in thing


def check_net(brims, pipes):
    """Point 6, word by word, of two dicts."""
    for name in brims:
        if not is_a_name(name):
            raise Refusal("BadName", name=name)
    if len(brims) > 12:
        raise Refusal("TooMany", kind="ponds")
    for name in brims:
        if not is_int(brims[name], 1, 60):
            raise Refusal("BadBrim", name=name)
    for pair in pipes:
        if pair[0] == pair[1] or not is_int(pipes[pair], 1, 60):
            raise Refusal("BadPipe", pair=pair)
    for name in sorted(brims):
        if sum(width for (one, other), width in pipes.items() if one == name) > brims[name]:
            raise Refusal("TooWide", name=name, side="out")
        if sum(width for (one, other), width in pipes.items() if other == name) > brims[name]:
            raise Refusal("TooWide", name=name, side="in")
    closed = [name for name in sorted(brims) if not leads_out(brims, pipes, name)]
    if closed:
        raise Refusal("Closed", names=closed)


def leads_out(brims, pipes, name):
    reached = [name]
    for one in reached:
        outs = {other: width for (start, other), width in pipes.items() if start == one}
        if sum(outs.values()) < brims[one]:
            return True
        reached.extend(other for other in outs if other not in reached)
    return False


class Model:
    """A basin as points 18 and 19 tell it; do() takes deeds as point 22 has them, and ("become", net, pours)."""

    def __init__(self):
        self.brims, self.pipes, self.pours, self.counts = {}, {}, {}, {}

    def copied(self):
        twin = Model()
        twin.brims, twin.pipes = dict(self.brims), dict(self.pipes)
        twin.pours, twin.counts = dict(self.pours), dict(self.counts)
        return twin

    def plain_net(self):
        return PlainNet(self.brims, self.pipes)

    def poured(self):
        return {
            pond: sum(amount for where, amount in self.pours.values() if where == pond) for pond in self.brims
        }

    def waters(self):
        return waters_of(self.plain_net(), self.poured(), self.counts)

    def full(self):
        return full_ponds(self.plain_net(), self.poured(), self.counts)

    def pour_list(self):
        return sorted((name, pond, amount) for name, (pond, amount) in self.pours.items())

    def do(self, deed):
        word, *told = deed
        return getattr(self, f"do_{word}")(*told)

    def check_pond(self, pond):
        if not is_a_name(pond) or pond not in self.brims:
            raise Refusal("NoPond", name=pond)

    def have_net(self, brims, pipes):
        check_net(brims, pipes)
        self.brims, self.pipes = brims, pipes

    def do_pour(self, name, pond, amount):
        if not is_a_name(name):
            raise Refusal("BadName", name=name)
        self.check_pond(pond)
        if not is_int(amount, 0):
            raise Refusal("BadAmount")
        if name in self.pours:
            raise Refusal("Taken", name=name)
        if len(self.pours) == 60:
            raise Refusal("TooMany", kind="pours")
        self.pours[name] = (pond, amount)

    def do_back(self, name):
        if not is_a_name(name):
            raise Refusal("BadName", name=name)
        if name not in self.pours:
            raise Refusal("NoPour", name=name)
        del self.pours[name]

    def do_dig(self, pond, brim):
        if is_a_name(pond) and pond in self.brims:
            raise Refusal("Taken", name=pond)
        if not is_a_name(pond):
            raise Refusal("BadName", name=pond)
        self.have_net({**self.brims, pond: brim}, self.pipes)
        self.counts[pond] = 0

    def do_fill(self, pond):
        self.check_pond(pond)
        if any(pond in pair for pair in self.pipes):
            raise Refusal("Joined", name=pond)
        if any(where == pond for where, amount in self.pours.values()):
            raise Refusal("Wet", name=pond)
        del self.brims[pond], self.counts[pond]

    def do_brim(self, pond, brim):
        self.check_pond(pond)
        self.have_net({**self.brims, pond: brim}, self.pipes)

    def do_pipe(self, one, other, width):
        self.check_pond(one)
        self.check_pond(other)
        self.have_net(self.brims, {**self.pipes, (one, other): width})

    def do_cut(self, one, other):
        self.check_pond(one)
        self.check_pond(other)
        if (one, other) not in self.pipes:
            raise Refusal("NoPipe", pair=(one, other))
        del self.pipes[one, other]

    def do_become(self, net, pours):
        fresh = Model()
        fresh.brims, fresh.pipes = net.brims(), net.pipes()
        for pour in pours:
            fresh.do_pour(*pour)
        self.counts = {name: self.counts.get(name, 0) for name in fresh.brims}
        self.brims, self.pipes, self.pours = fresh.brims, fresh.pipes, fresh.pours

    def do_spill(self, pond, times):
        self.check_pond(pond)
        if not is_int(times, 1):
            raise Refusal("BadTimes")
        most = max(0, self.waters()[pond] // self.brims[pond])
        if times > most:
            raise Refusal("CantSpill", name=pond, most=most)
        self.counts[pond] += times

    def do_unspill(self, lot, times):
        if self.full():
            raise Refusal("NotAtRest", name=self.full()[0])
        ponds = type(lot) in (list, tuple) and len(lot) > 0 and all(is_a_name(name) for name in lot)
        if not ponds or not all(name in self.brims for name in lot) or len(set(lot)) != len(lot):
            raise Refusal("BadLot")
        if not is_int(times, 1):
            raise Refusal("BadTimes")
        most = unspilled_one_by_one(self.plain_net(), self.poured(), self.counts, lot)
        if times > most:
            raise Refusal("CantUnspill", most=most)
        for name in lot:
            self.counts[name] -= times

    def come_to(self, counts):
        more = {name: counts[name] - self.counts[name] for name in self.brims}
        self.counts = {name: counts[name] for name in self.brims}
        return more

    def do_rest(self):
        return self.come_to(rested_one_by_one(self.plain_net(), self.poured(), self.counts, min))

    def do_settle(self):
        return self.come_to(self.settled())

    def settled(self):
        return rested_one_by_one(self.plain_net(), self.poured(), {}, max)

    def lots_that_can(self, lots):
        return [lot for lot in lots if can_be_unspilled(self.plain_net(), self.poured(), self.counts, lot)]


PONDS = ["a", "b", "c", "d", "rest"]
POURS = ["p", "q", "main", "pond", "a"]
WRONG_NAMES = [None, True, False, 0, "", "A", "a b", "abcdefghi", ("a",), b"a", GREAT, "x", "zz"]
WRONG_NUMBERS = [None, True, False, "1", -1, -GREAT, (1,), b"1", "", "a"]
WRONG_LOTS = [None, True, 0, "a", "ab", (), [], ["a", "a"], ["x"], [None], ["a", ["b"]], {"a": 1}, ("a", 1)]
WORDS = (
    "pour pour pour pour back back back dig dig dig fill brim brim pipe pipe pipe pipe cut"
    " spill spill spill unspill unspill unspill rest rest rest settle"
).split()


def drawn_number(chance, *likely):
    return chance.choice(WRONG_NUMBERS) if chance.randrange(12) == 0 else chance.choice(likely)


def drawn_name(chance, names):
    return chance.choice(WRONG_NAMES) if chance.randrange(14) == 0 else chance.choice(names)


def drawn_lot(chance):
    if chance.randrange(10) == 0:
        return chance.choice(WRONG_LOTS)
    lot = chance.sample(PONDS, chance.randint(1, 3))
    return chance.choice([lot, tuple(lot), sorted(lot)])


def drawn_deed(chance, model):
    """A deed as point 22 has it: mostly one that can be done, else any, which is refused more often than not."""
    word = chance.choice(WORDS)
    likely = likely_deeds(word, model) if chance.randrange(10) < 6 else []
    return chance.choice(likely or [any_deed(chance, word)])


def likely_deeds(word, model):
    """Deeds of a word that can be done as the model stands, so far as one can be told by its names alone."""
    ponds, joined = sorted(model.brims), [pond for pair in model.pipes for pond in pair]
    if word == "pour":
        return [(word, name, pond, amount) for name in POURS if name not in model.pours for pond in ponds
                for amount in (0, 1, 5, 8, 13)]
    if word == "back":
        return [(word, name) for name in sorted(model.pours)]
    if word == "dig":
        return [(word, pond, brim) for pond in PONDS if pond not in ponds for brim in (1, 2, 3, 4, 5)]
    if word == "fill":
        return [(word, pond) for pond in ponds if pond not in joined]
    if word == "brim":
        return [(word, pond, max(1, model.brims[pond] + more)) for pond in ponds for more in (0, 1, 2, -1)]
    if word == "pipe":
        return [(word, one, other, width) for one in ponds for other in ponds if one != other for width in (1, 2, 3)]
    if word == "cut":
        return [(word, *pair) for pair in sorted(model.pipes)]
    if word == "spill":
        return [(word, pond, times) for pond in model.full() for times in (1, model.waters()[pond] // model.brims[pond])]
    if word == "unspill" and not model.full():
        return [(word, lot, 1) for lot in model.lots_that_can(lots_of(ponds))]
    return []


def any_deed(chance, word):
    """A deed of a word, with whatever names and numbers."""
    if word == "pour":
        return word, drawn_name(chance, POURS), drawn_name(chance, PONDS), drawn_number(chance, 0, 1, 3, 5, 8, 13)
    if word == "back":
        return word, drawn_name(chance, POURS)
    if word in ("dig", "brim"):
        return word, drawn_name(chance, PONDS), drawn_number(chance, 1, 2, 3, 3, 4, 4, 5, 60, 61, 0)
    if word == "fill":
        return word, drawn_name(chance, PONDS)
    if word == "pipe":
        return word, drawn_name(chance, PONDS), drawn_name(chance, PONDS), drawn_number(chance, 1, 1, 2, 2, 3, 4, 0, 61)
    if word == "cut":
        return word, drawn_name(chance, PONDS), drawn_name(chance, PONDS)
    if word == "spill":
        return word, drawn_name(chance, PONDS), drawn_number(chance, 1, 1, 1, 2, 3, 0, GREAT)
    if word == "unspill":
        return word, drawn_lot(chance), drawn_number(chance, 1, 1, 1, 2, 3, 0, GREAT)
    return (word,)


def do_on_basin(basin, deed):
    """A deed as point 22 has it, and become, done on a basin by its own methods."""
    word, *told = deed
    if word == "dig":
        return basin.dig(told[0], brim=told[1])
    if word == "pipe":
        return basin.pipe(told[0], told[1], width=told[2])
    return getattr(basin, word)(*told)
