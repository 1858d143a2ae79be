"""The refusals of the program, each a kind of its own under TieError."""


class TieError(ValueError):
    """What all refusals have in common."""


class NoPlace(TieError):
    """A number that is no place, or one place given twice."""


class Tied(TieError):
    """A tie that is there already."""


class NoTie(TieError):
    """A tie that is not there."""


class Full(TieError):
    """No room for one place more."""


class Barred(TieError):
    """A round keeps the web from being pointed; ring is that round."""

    def __init__(self, ring):
        # Words are handed on instead of the ring: Python would keep the caller's own list otherwise.
        super().__init__("a round bars every led pointing")
        self.ring = list(ring)


class BadRow(TieError):
    """A row of a sheet that cannot stand there; row is its number."""

    def __init__(self, row):
        super().__init__(f"row {row} cannot stand there")
        self.row = row
