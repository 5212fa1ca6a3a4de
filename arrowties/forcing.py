"""Forcing: the arrows that an arrow brings with it."""

from arrowties.errors import NoArrow
from arrowties.nets import is_point


def _need_arrow(net, arrow):
    """Refuse a pair that is no arrow of the net."""
    tail, head = arrow
    both = is_point(net.many, tail) and is_point(net.many, head)
    if not both or not net.tied(tail, head):
        raise NoArrow(f"({tail}, {head}) is no arrow of the net")


def _at_once(net, arrow):
    """Give the arrows that an arrow of the net forces at once, rising."""
    tail, head = arrow
    away = [
        (tail, third)
        for third in net.near(tail)
        if third != head and not net.tied(head, third)
    ]
    toward = [
        (third, head)
        for third in net.near(head)
        if third != tail and not net.tied(tail, third)
    ]
    return sorted(away + toward)


def _ahead(net, start):
    """Give for each arrow that is come to from the start the arrow ahead of it."""
    ahead = {start: None}
    layer = [start]
    # A layer stands in the order of its arrows' least rows, so the first arrow
    # that forces a new one is the one ahead of it in the new one's least row.
    while layer:
        following = []
        for arrow in layer:
            for found in _at_once(net, arrow):
                if found not in ahead:
                    ahead[found] = arrow
                    following.append(found)
        layer = following
    return ahead


def forced(net, arrow):
    """Give the arrows that an arrow forces at once, rising."""
    _need_arrow(net, arrow)
    return _at_once(net, arrow)


def led(net, arrow):
    """Give all arrows that can be come to from an arrow, itself too, rising."""
    _need_arrow(net, arrow)
    return sorted(_ahead(net, arrow))


def chain(net, one, other):
    """Give the least of the shortest rows from one arrow to another, or None."""
    _need_arrow(net, one)
    _need_arrow(net, other)
    ahead = _ahead(net, one)
    if other not in ahead:
        return None
    row = [other]
    while row[-1] != one:
        row.append(ahead[row[-1]])
    return row[::-1]
