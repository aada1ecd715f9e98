"""The refusals of the whole program, each straight under CubeError."""


class CubeError(ValueError):
    """Any refusal."""


class NoPlace(CubeError):
    """What was handed in for a place, or for some places, is none."""


class NoTie(CubeError):
    """What was handed in for the number of a tie, or of a group, is none."""


class NoLine(CubeError):
    """What was handed in for numbers of bits, or for a desk's row, is none."""


class Apart(CubeError):
    """The web is not joined."""


class NoCube(CubeError):
    """The web lies in no cube, or what was handed in for bits is none."""


class NoWeb(CubeError):
    """No web can be made: number is -1 for the many, else the thing's place in the list."""

    def __init__(self, number):
        self.number = number


class NoText(CubeError):
    """The text writes no web: row is 0 for what is no text, else the first wrong row."""

    def __init__(self, row):
        self.row = row


class TooGreat(CubeError):
    """There would be many of a thing, of which there may be most."""

    def __init__(self, many, most):
        self.many = many
        self.most = most
