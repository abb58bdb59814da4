"""Nets: ponds with brims, and pipes between them."""

from backwater.errors import BadBrim, BadName, BadPipe, Closed, NoNet, NoPond, TooMany, TooWide
from backwater.wholes import is_whole

MOST_PONDS = 12
MOST_BRIM = 60
BRIM = 4
WIDTH = 1
MOST_LETTERS = 8
LETTERS = "abcdefghijklmnopqrstuvwxyz"


def is_name(thing):
    """Whether a thing of any kind is a NAME: a text of one to eight letters a to z."""
    if not isinstance(thing, str) or not 1 <= len(thing) <= MOST_LETTERS:
        return False
    return all([letter in LETTERS for letter in thing])


def is_measure(thing):
    """Whether a thing of any kind can be a brim or a width."""
    return is_whole(thing, 1) and thing <= MOST_BRIM


def is_pond_of(brims, thing):
    """Whether a thing of any kind is a pond among these brims."""
    # Only a NAME is looked up: what is no text may have no place in a dict at all.
    return is_name(thing) and thing in brims


def is_pair_of(brims, thing):
    """Whether a thing of any kind is a tuple of two unlike ponds among these brims."""
    if not isinstance(thing, tuple) or len(thing) != 2:
        return False
    return is_pond_of(brims, thing[0]) and is_pond_of(brims, thing[1]) and thing[0] != thing[1]


def goes_out(pipes, name):
    """All widths out of a pond, together."""
    return sum([pipes[pair] for pair in pipes if pair[0] == name])


def comes_in(pipes, name):
    """All widths into a pond, together."""
    return sum([pipes[pair] for pair in pipes if pair[1] == name])


def pipes_out(pipes, name):
    """The pipes out of a pond, as tuples of the pond they lead to and the width."""
    return [(other, pipes[(one, other)]) for one, other in pipes if one == name]


def pipes_in(pipes, name):
    """The pipes into a pond, as tuples of the pond they come from and the width."""
    return [(one, pipes[(one, other)]) for one, other in pipes if other == name]


def steps_out(brims, pipes):
    """A dict from each pond from which a way out leads to how many pipes the shortest one has."""
    steps = {name: 0 for name in brims if goes_out(pipes, name) < brims[name]}
    far = 0
    edge = sorted(steps)
    while edge:
        far += 1
        edge = sorted({one for one, other in pipes if other in edge and one not in steps})
        for name in edge:
            steps[name] = far
    return steps


def check_ponds(brims):
    """Refuse ponds that are no NAMES, too many ponds, and brims that are none."""
    for name in brims:
        if not is_name(name):
            raise BadName(name)
    if len(brims) > MOST_PONDS:
        raise TooMany("ponds")
    for name in brims:
        if not is_measure(brims[name]):
            raise BadBrim(name)


def check_pipes(brims, pipes):
    """Refuse pipes that do not lead from pond to pond, and widths that are none."""
    for pair in pipes:
        if not is_pair_of(brims, pair) or not is_measure(pipes[pair]):
            raise BadPipe(pair)


def check_sides(brims, pipes):
    """Refuse ponds of which more than the brim goes out or comes in."""
    for name in sorted(brims):
        if goes_out(pipes, name) > brims[name]:
            raise TooWide(name, "out")
        if comes_in(pipes, name) > brims[name]:
            raise TooWide(name, "in")


def check_ways(brims, pipes):
    """Refuse ponds from which no way out leads."""
    steps = steps_out(brims, pipes)
    closed = [name for name in sorted(brims) if name not in steps]
    if closed:
        raise Closed(closed)


class Net:
    """Ponds and pipes; once made, a net never changes."""

    def __init__(self, brims, pipes=None):
        laid = {} if pipes is None else pipes
        if not isinstance(brims, dict) or not isinstance(laid, dict):
            raise NoNet("a net is made of a dict of brims and a dict of pipes")
        check_ponds(brims)
        check_pipes(brims, laid)
        check_sides(brims, laid)
        check_ways(brims, laid)
        # Kept sorted, so that nets that are alike answer alike, in whatever order they were made.
        self.brim_by_pond = {name: brims[name] for name in sorted(brims)}
        self.width_by_pair = {(one, other): laid[(one, other)] for one, other in sorted(laid)}
        # Kept by pond, too, since every reckoning of water asks for them again and again.
        self.outs_by_pond = {name: pipes_out(self.width_by_pair, name) for name in self.brim_by_pond}
        self.ins_by_pond = {name: pipes_in(self.width_by_pair, name) for name in self.brim_by_pond}

    def has_pond(self, thing):
        """Whether a thing of any kind is a pond of this net."""
        return is_pond_of(self.brim_by_pond, thing)

    def check_pond(self, thing):
        """Refuse what is no pond of this net, of any kind."""
        if not self.has_pond(thing):
            raise NoPond(thing)

    def ponds(self):
        """All ponds, sorted."""
        return list(self.brim_by_pond)

    def brim(self, name):
        """A pond's brim."""
        self.check_pond(name)
        return self.brim_by_pond[name]

    def soaks(self, name):
        """What the widths out of a pond are less than its brim."""
        self.check_pond(name)
        return self.brim_by_pond[name] - goes_out(self.width_by_pair, name)

    def width(self, one, other):
        """The width of the pipe from one pond to another, 0 if there is none."""
        self.check_pond(one)
        self.check_pond(other)
        return self.width_by_pair.get((one, other), 0)

    def outs(self, name):
        """The pipes out of a pond, as sorted tuples of the pond they lead to and the width."""
        self.check_pond(name)
        return list(self.outs_by_pond[name])

    def ins(self, name):
        """The pipes into a pond, as sorted tuples of the pond they come from and the width."""
        self.check_pond(name)
        return list(self.ins_by_pond[name])

    def brims(self):
        """A dict from each pond to its brim."""
        return {name: self.brim_by_pond[name] for name in self.brim_by_pond}

    def pipes(self):
        """A dict from the two ponds of each pipe to its width."""
        return {pair: self.width_by_pair[pair] for pair in self.width_by_pair}

    def __eq__(self, other):
        return (isinstance(other, Net) and self.brim_by_pond == other.brim_by_pond
                and self.width_by_pair == other.width_by_pair)

    def __len__(self):
        return len(self.brim_by_pond)

    def __repr__(self):
        return f"Net({self.brim_by_pond!r}, {self.width_by_pair!r})"
