"""The refusals: one class for each kind, all straight under SightError."""


class SightError(ValueError):
    """Any refusal."""


class NoBoard(SightError):
    """What was handed in as a board is none."""


class NoPiece(SightError):
    """What was handed in as a piece, or as kinds, is none."""


class NoCell(SightError):
    """What was handed in as a cell is none that fits."""


class NoLot(SightError):
    """What was handed in as a lot is none that fits."""


class NoSight(SightError):
    """The lot does not see all cells."""


class NoNumber(SightError):
    """What was handed in as a number is none that fits."""


class NoPrices(SightError):
    """What was handed in as prices is none."""


class NoTurn(SightError):
    """What was handed in as a turn is none."""


class NoPlacing(SightError):
    """What was handed in as a placing is none."""


class NoText(SightError):
    """What was handed in as a text is none that can be read."""


class NoLine(SightError):
    """What a desk was told is no line."""


class NoDeed(SightError):
    """No deed stands that could be undone."""


class TooGreat(SightError):
    """There are many where at most so many are gone through."""

    def __init__(self, many, most):
        SightError.__init__(self, f"{many} is more than {most}")
        self.many = many
        self.most = most
