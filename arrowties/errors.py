"""The refusals of the package."""


class TieError(ValueError):
    """Any refusal."""


class NoPoints(TieError):
    """A wrong number of points."""


class NoPoint(TieError):
    """A number that is no point."""


class NoTie(TieError):
    """A pair that can be no tie."""


class TwiceTold(TieError):
    """A tie that was told before."""


class NoArrow(TieError):
    """A pair that is no arrow of the net."""


class Round(TieError):
    """Arrows that lead round."""


class Clash(TieError):
    """Ties that can't be turned into arrows without gaps."""
