"""Colours: as few as can be, for a net whose ties can be turned."""

from arrowties.errors import Clash
from arrowties.heights import heights, longest
from arrowties.turning import turned


def coloured(net):
    """Give a colour for each point, and as many points tied two by two as colours."""
    done, arrows = turned(net)
    if not done:
        raise Clash("the net's ties can't be turned into arrows without gaps")
    # Where there are no gaps, all points of a row are tied two by two.
    return (heights(net.many, arrows), longest(net.many, arrows))
