"""Heights: the longest rows of points along arrows."""

from arrowties.errors import Round
from arrowties.nets import need_point, need_points


def _need_arrows(many, arrows):
    """Refuse a wrong number of points, and then a number that is no point."""
    need_points(many)
    for tail, head in arrows:
        need_point(many, tail)
        need_point(many, head)


def heights(many, arrows):
    """Give for each point how many points the longest row has that ends with it."""
    _need_arrows(many, arrows)
    found = [1] * many
    # Each time makes the rows longer that can be, so after as many times as
    # there are points only rows that lead round have more points than there are.
    for _ in range(many):
        for tail, head in arrows:
            found[head] = max(found[head], found[tail] + 1)
    if max(found, default=0) > many:
        raise Round("the arrows lead round")
    return found


def longest(many, arrows):
    """Give the least of the rows with as many points as can be."""
    # Along the arrows turned about, a row that ends with a point is one that
    # begins with it.
    left = heights(many, [(head, tail) for tail, head in arrows])
    row = []
    choice = list(range(many))
    for size in range(max(left, default=0), 0, -1):
        point = min([one for one in choice if left[one] == size])
        row.append(point)
        choice = [head for tail, head in arrows if tail == point]
    return row
