"""Basins: a net, pours by name, and counts, under which pours and net may be changed."""

from backwater.errors import BadAmount, BadName, BadPour, NoPour, Taken, TooMany, Wet
from backwater.lots import unspilled
from backwater.nets import BRIM, WIDTH, Net, is_name
from backwater.outlets import with_brim, with_pipe, with_pond, without_pipe, without_pond
from backwater.rests import rested, settled
from backwater.spills import spilled
from backwater.stands import Stand
from backwater.wholes import is_whole

MOST_POURS = 60


def check_name(thing):
    """Refuse what is no NAME, of any kind."""
    if not is_name(thing):
        raise BadName(thing)


def check_pours(things):
    """Refuse what is no list of tuples of three things, of any kind."""
    if not isinstance(things, (list, tuple)):
        raise BadPour("pours are a list")
    if not all([isinstance(thing, tuple) and len(thing) == 3 for thing in things]):
        raise BadPour("each pour is a tuple of a name, a pond and an amount")


class Basin:
    """A net, pours and counts; no deed on it changes any other object."""

    def __init__(self, net=None):
        self.own_net = Net({}) if net is None else net
        self.pour_by_name = {}
        self.count_by_pond = {name: 0 for name in self.own_net.ponds()}

    def net(self):
        """The net."""
        return self.own_net

    def pours(self):
        """All pours, as sorted tuples of the name, the pond and the amount."""
        return [self.pour_by_name[name] for name in sorted(self.pour_by_name)]

    def stand(self):
        """The stand: the net, all that is poured into each pond, and the counts."""
        poured = {name: 0 for name in self.own_net.ponds()}
        for name, pond, amount in self.pours():
            poured[pond] += amount
        return Stand(self.own_net, poured, self.count_by_pond)

    def counts(self):
        """A dict from each pond to its count."""
        return {name: self.count_by_pond[name] for name in self.count_by_pond}

    def waters(self):
        """A dict from each pond to its water."""
        return self.stand().waters()

    def pour(self, name, pond, amount):
        """Pour an amount into a pond, by this name."""
        check_name(name)
        self.own_net.check_pond(pond)
        if not is_whole(amount, 0):
            raise BadAmount("an amount is a whole number from 0 on")
        if name in self.pour_by_name:
            raise Taken(name)
        if len(self.pour_by_name) >= MOST_POURS:
            raise TooMany("pours")
        self.pour_by_name[name] = (name, pond, amount)

    def back(self, name):
        """Take a pour back."""
        check_name(name)
        if name not in self.pour_by_name:
            raise NoPour(name)
        del self.pour_by_name[name]

    def dig(self, pond, *, brim=BRIM):
        """Add a pond with this brim, without pipes and with count 0."""
        self.change_net(with_pond(self.own_net, pond, brim=brim))

    def fill(self, pond):
        """Take away a pond to which and from which no pipe leads, and at which no pour is."""
        net = without_pond(self.own_net, pond)
        if pond in [where for name, where, amount in self.pours()]:
            raise Wet(pond)
        self.change_net(net)

    def brim(self, pond, brim):
        """Give a pond this brim."""
        self.change_net(with_brim(self.own_net, pond, brim))

    def pipe(self, one, other, *, width=WIDTH):
        """Lay a pipe from one pond to the other, or give the one that is there this width."""
        self.change_net(with_pipe(self.own_net, one, other, width=width))

    def cut(self, one, other):
        """Take away the pipe from one pond to the other."""
        self.change_net(without_pipe(self.own_net, one, other))

    def become(self, net, pours):
        """Have another net and other pours; ponds that are in both nets keep their counts."""
        check_pours(pours)
        # All is poured elsewhere first, so that a refused pour leaves this basin as it was.
        fresh = Basin(net)
        for name, pond, amount in pours:
            fresh.pour(name, pond, amount)
        self.pour_by_name = fresh.pour_by_name
        self.change_net(net)

    def change_net(self, net):
        """Have another net; its ponds keep the counts that they have, new ones have 0."""
        self.own_net = net
        self.count_by_pond = {name: self.count_by_pond.get(name, 0) for name in net.ponds()}

    def come_to(self, stand):
        """Have the counts of a stand of the same net; a dict from each pond to how much more that is."""
        more = {name: stand.count(name) - self.count_by_pond[name] for name in self.count_by_pond}
        self.count_by_pond = stand.counts()
        return more

    def spill(self, pond, times=1):
        """Spill a pond so many times."""
        self.come_to(spilled(self.stand(), pond, times))

    def unspill(self, lot, times=1):
        """Unspill a lot so many times."""
        self.come_to(unspilled(self.stand(), lot, times))

    def rest(self):
        """Spill till it's at rest; a dict from each pond to how much more its count is."""
        return self.come_to(rested(self.stand()))

    def settle(self):
        """Spill and unspill till it's settled; a dict from each pond to how much more its count is, or less."""
        return self.come_to(settled(self.stand()))

    def copied(self):
        """A basin alike to this one, which goes its own way."""
        twin = Basin(self.own_net)
        twin.pour_by_name = {name: self.pour_by_name[name] for name in self.pour_by_name}
        twin.count_by_pond = self.counts()
        return twin

    def __eq__(self, other):
        return (isinstance(other, Basin) and self.own_net == other.own_net
                and self.pour_by_name == other.pour_by_name and self.count_by_pond == other.count_by_pond)

    def __len__(self):
        return len(self.pour_by_name)
