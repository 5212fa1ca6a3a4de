"""What several tests share: refusals, many nets, and plain second ways to answer."""

import itertools

from arrowties.errors import TieError
from arrowties.nets import Net


def assert_refused(case, error, call, *handed):
    """The call is refused by just this class, and the common classes catch it."""
    for caught in (error, TieError, ValueError):
        try:
            call(*handed)
        except caught as refusal:
            case.assertIs(type(refusal), error, handed)
        else:
            case.fail(f"not refused: {handed}")


def all_ties(many):
    return [(one, other) for one in range(many) for other in range(one + 1, many)]


def ties_by_number(many, number):
    """The ties that the binary digits of a number pick out."""
    return [tie for at, tie in enumerate(all_ties(many)) if number >> at & 1]


def small_ties():
    """(many, ties) of every net with up to 4 points, and of some with 5 and 6."""
    for many in range(5):
        for number in range(2 ** (many * (many - 1) // 2)):
            yield many, ties_by_number(many, number)
    for number in range(0, 2 ** 10, 7):
        yield 5, ties_by_number(5, number)
    for number in range(0, 2 ** 15, 331):
        yield 6, ties_by_number(6, number)


def big_ties():
    """(many, ties) of nets with 7 to 24 points, sparse ones and dense ones."""
    for many in (7, 9, 12, 17, 24):
        for part in (2, 3, 5, 8, 10):
            yield many, [
                (one, other)
                for one, other in all_ties(many)
                if (one * one + 3 * one * other + 5 * other + part) % 11 < part
            ]


def ring(many):
    return [(one, (one + 1) % many) for one in range(many)]


def net_of(many, ties):
    return Net(many, list(ties))


def plain_arrows(ties):
    return sorted([(one, other) for one, other in ties] + [(other, one) for one, other in ties])


def plain_forced(arrows, arrow):
    """All arrows gone through, each held against the words of point 5."""
    a, b = arrow
    known = set(arrows)
    found = []
    for start, end in sorted(known):
        leaves = start == a and end != b and (b, end) not in known
        arrives = end == b and start != a and (a, start) not in known
        if leaves or arrives:
            found.append((start, end))
    return found


def plain_steps(arrows):
    return {arrow: plain_forced(arrows, arrow) for arrow in arrows}


def plain_led(steps, arrow):
    """Grown until nothing new comes, whatever the order."""
    reached = {arrow}
    while True:
        grown = reached | {found for one in reached for found in steps[one]}
        if grown == reached:
            return sorted(reached)
        reached = grown


def plain_chain(steps, one, other):
    """All rows of a length, longer and longer, that come nearer to the end."""
    far = {other: 0}
    layer = [other]
    while layer:
        # Looked up from behind, so that nothing here relies on forcing
        # going both ways.
        layer = [a for a in steps if a not in far and any(b in layer for b in steps[a])]
        far.update({a: max(far.values()) + 1 for a in layer})
    if one not in far:
        return None
    rows = [[one]]
    for left in range(far[one] - 1, -1, -1):
        rows = [row + [b] for row in rows for b in steps[row[-1]] if far.get(b) == left]
    return min(rows)


def plain_gaps(arrows):
    """All pairs of pairs gone through."""
    told = set(arrows)
    return sorted({(a, b, c) for a, b in arrows for start, c in arrows
                   if start == b and (a, c) not in told})


def plain_fits(ties, arrows):
    """Each part of point 10 by itself."""
    counts = [arrows.count((a, b)) + arrows.count((b, a)) for a, b in ties]
    strange = [(a, b) for a, b in arrows if (a, b) not in ties and (b, a) not in ties]
    return counts == [1] * len(ties) and not strange and not plain_gaps(arrows)


def every_turning(ties):
    """Each way to make one arrow of each tie."""
    return [list(arrows) for arrows in
            itertools.product(*[((a, b), (b, a)) for a, b in ties])]


def plain_rows(many, arrows):
    """All rows of points along arrows that don't lead round."""
    rows = []
    grown = [[point] for point in range(many)]
    while grown:
        rows += grown
        grown = [row + [b] for row in grown for a, b in sorted(set(arrows)) if a == row[-1]]
    return rows


def leads_round(many, arrows):
    """Points that no arrow leaves are taken off, until none is left or none can be."""
    left = set(range(many))
    while True:
        ends = {a for a in left if not any((a, b) in arrows for b in left)}
        if not ends:
            return bool(left)
        left -= ends
