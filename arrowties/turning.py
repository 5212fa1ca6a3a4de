"""Turning: ties made into arrows without gaps, where that can be done."""

from arrowties.forcing import chain, led


def gaps(arrows):
    """Give the triples whose first arrow and second one lack the straight one, rising."""
    known = set(arrows)
    heads = {}
    for tail, head in sorted(known):
        heads.setdefault(tail, []).append(head)
    return [
        (one, other, third)
        for one, other in sorted(known)
        for third in heads.get(other, [])
        if (one, third) not in known
    ]


def fits(net, arrows):
    """Tell whether a list of pairs turns a net's ties into arrows without gaps."""
    ties = sorted([(min(one, other), max(one, other)) for one, other in arrows])
    return ties == net.pairs() and not gaps(arrows)


def turned(net):
    """Give True and arrows that fit the net, or False and a row that clashes."""
    taken = {}
    # Forcing goes both ways, so arrows that lead to each other make a group.
    # A group that holds no arrow both ways is taken whole or turned whole. At
    # will, that may leave gaps between groups; with the least arrow of each,
    # as rising ties bring it, it leaves none (Hell and Huang, 1995,
    # "Lexicographic orientation and representation algorithms").
    for one, other in net.pairs():
        if (one, other) in taken or (other, one) in taken:
            continue
        group = led(net, (one, other))
        if (other, one) in group:
            return (False, chain(net, (one, other), (other, one)))
        for arrow in group:
            taken[arrow] = True
    return (True, sorted(taken))
