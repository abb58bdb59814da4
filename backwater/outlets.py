"""Ways out of ponds, and nets that differ from another one by one pond, brim or pipe."""

from backwater.errors import BadName, Joined, NoPipe, Taken
from backwater.nets import BRIM, WIDTH, Net, is_name, steps_out


def way_out(net, name):
    """The first, sorted, of the shortest ways from a pond to one that soaks."""
    net.check_pond(name)
    steps = steps_out(net.brims(), net.pipes())
    way = [name]
    # Taking the first pond that is one step nearer, each time, gives the first way, sorted.
    for left in reversed(range(steps[name])):
        nearer = [other for other, width in net.outs(way[-1]) if steps[other] == left]
        way.append(nearer[0])
    return way


def with_brim(net, name, brim):
    """A net otherwise alike, in which a pond has this brim."""
    net.check_pond(name)
    brims = net.brims()
    brims[name] = brim
    return Net(brims, net.pipes())


def with_pipe(net, one, other, *, width=WIDTH):
    """A net otherwise alike, in which a pipe of this width leads from one pond to the other."""
    net.check_pond(one)
    net.check_pond(other)
    pipes = net.pipes()
    pipes[(one, other)] = width
    return Net(net.brims(), pipes)


def without_pipe(net, one, other):
    """A net otherwise alike, without the pipe from one pond to the other."""
    if net.width(one, other) == 0:
        raise NoPipe((one, other))
    pipes = net.pipes()
    del pipes[(one, other)]
    return Net(net.brims(), pipes)


def with_pond(net, name, *, brim=BRIM):
    """A net otherwise alike, with one more pond that has no pipes."""
    if net.has_pond(name):
        raise Taken(name)
    # Ahead of the net's own check, since what is no NAME may have no place in a dict at all.
    if not is_name(name):
        raise BadName(name)
    brims = net.brims()
    brims[name] = brim
    return Net(brims, net.pipes())


def without_pond(net, name):
    """A net otherwise alike, without a pond that has no pipes."""
    if net.outs(name) or net.ins(name):
        raise Joined(name)
    brims = net.brims()
    del brims[name]
    return Net(brims, net.pipes())
