"""Nets: points, numbered from 0, and ties between them."""

from arrowties.errors import NoPoint, NoPoints, NoTie, TwiceTold

MOST_POINTS = 24


def is_point(many, number):
    """Tell whether a number is one of so many points."""
    return 0 <= number < many


def need_points(many):
    """Refuse a wrong number of points."""
    if not 0 <= many <= MOST_POINTS:
        raise NoPoints(f"there can be 0 to {MOST_POINTS} points, not {many}")


def need_point(many, number):
    """Refuse a number that is no point."""
    if not is_point(many, number):
        raise NoPoint(f"{number} is not one of {many} points")


def _rows_of(many, ties):
    """Give for each point the points that are tied to it, rising."""
    rows = [[] for point in range(many)]
    for one, other in ties:
        if not is_point(many, one) or not is_point(many, other) or one == other:
            raise NoTie(f"({one}, {other}) does not tie two of {many} points")
        if other in rows[one]:
            raise TwiceTold(f"the tie ({one}, {other}) was told before")
        rows[one].append(other)
        rows[other].append(one)
    return [sorted(row) for row in rows]


class Net:
    """So many points and the ties between them; it never changes."""

    def __init__(self, many, ties):
        need_points(many)
        self.many = many
        self._rows = _rows_of(many, ties)

    def tied(self, one, other):
        """Tell whether two points are tied."""
        need_point(self.many, one)
        need_point(self.many, other)
        return other in self._rows[one]

    def near(self, one):
        """Give the points that are tied to a point, rising."""
        need_point(self.many, one)
        return list(self._rows[one])

    def pairs(self):
        """Give all ties, each with the lesser point first, rising."""
        return [
            (one, other)
            for one in range(self.many)
            for other in self._rows[one]
            if one < other
        ]


def opposite(net):
    """Give the net in which two points are tied just where they aren't in this one."""
    ties = [
        (one, other)
        for other in range(net.many)
        for one in range(other)
        if not net.tied(one, other)
    ]
    return Net(net.many, ties)


def lessened(net, point):
    """Give the net without a point; each greater point moves down by one."""
    need_point(net.many, point)
    kept = [old for old in range(net.many) if old != point]
    ties = [
        (one, other)
        for other in range(len(kept))
        for one in range(other)
        if net.tied(kept[one], kept[other])
    ]
    return Net(len(kept), ties)
