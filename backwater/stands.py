"""Stands: a net, and for each pond how much is poured and how often it has spilled."""

from backwater.errors import BadCount, BadPoured
from backwater.wholes import figures, is_whole


def wrong_keys(net, table):
    """A list of the first wrong key of a table of any kind; empty, if the table is right.

    It is a list, since the wrong key may be None.
    """
    if table is None:
        return []
    if not isinstance(table, dict):
        return [None]
    return [key for key in table if not net.has_pond(key) or not is_whole(table[key], 0)][:1]


def for_all_ponds(net, table):
    """A dict from each pond of a net to its number in a table, 0 where it is left out."""
    if table is None:
        return {name: 0 for name in net.ponds()}
    return {name: table.get(name, 0) for name in net.ponds()}


def shown(table):
    """A dict from ponds to numbers, as repr shows it, however great the numbers."""
    return "{" + ", ".join([f"{name!r}: {figures(table[name])}" for name in table]) + "}"


class Stand:
    """A net, poured amounts and counts; once made, a stand never changes."""

    def __init__(self, net, poured=None, counts=None):
        wrong = wrong_keys(net, poured)
        if wrong:
            raise BadPoured(wrong[0])
        wrong = wrong_keys(net, counts)
        if wrong:
            raise BadCount(wrong[0])
        self.own_net = net
        self.poured_by_pond = for_all_ponds(net, poured)
        self.count_by_pond = for_all_ponds(net, counts)

    def net(self):
        """The net."""
        return self.own_net

    def poured(self, name):
        """How much is poured into a pond."""
        self.own_net.check_pond(name)
        return self.poured_by_pond[name]

    def count(self, name):
        """How often a pond has spilled."""
        self.own_net.check_pond(name)
        return self.count_by_pond[name]

    def water(self, name):
        """What is in a pond: below 0, where it owes."""
        came = sum([width * self.count_by_pond[one] for one, width in self.own_net.ins(name)])
        return self.poured_by_pond[name] + came - self.own_net.brim(name) * self.count_by_pond[name]

    def pours(self):
        """A dict from each pond to how much is poured there."""
        return {name: self.poured_by_pond[name] for name in self.poured_by_pond}

    def counts(self):
        """A dict from each pond to its count."""
        return {name: self.count_by_pond[name] for name in self.count_by_pond}

    def waters(self):
        """A dict from each pond to its water."""
        return {name: self.water(name) for name in self.own_net.ponds()}

    def __eq__(self, other):
        return (isinstance(other, Stand) and self.own_net == other.own_net
                and self.poured_by_pond == other.poured_by_pond and self.count_by_pond == other.count_by_pond)

    def __repr__(self):
        return f"Stand({self.own_net!r}, {shown(self.poured_by_pond)}, {shown(self.count_by_pond)})"
