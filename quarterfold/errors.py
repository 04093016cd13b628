"""The refusals: one class for each kind, all under FloorError."""


class FloorError(ValueError):
    """Any refusal."""


class NoFloor(FloorError):
    """A size of a floor is wanted, and what was handed in is none."""


class NoAddress(FloorError):
    """An address on the floor is wanted, and what was handed in is none."""


class NoCell(FloorError):
    """A cell of the floor is wanted, and what was handed in is none."""


class NoShape(FloorError):
    """A shape is wanted, and what was handed in is none."""


class NoTelling(FloorError):
    """A telling is wanted, and what was handed in is none."""


class NoText(FloorError):
    """A shape's text is wanted, and what was handed in is none."""


class NoStep(FloorError):
    """A step of the telling is wanted, and what was handed in is none."""


class NoBox(FloorError):
    """A box on the floor is wanted, and what was handed in is none."""


class TooMany(FloorError):
    """There are more cells, leaves or sizes than are told."""


class OtherFloor(FloorError):
    """A shape is of another floor than the one that is wanted."""


class NoTurn(FloorError):
    """A turn is wanted, and what was handed in is none."""


class NoNumber(FloorError):
    """A number is wanted, and what was handed in is none that fits."""


class NoSide(FloorError):
    """A side of a square is wanted, and what was handed in is none."""


class NotFull(FloorError):
    """A full cell is wanted, and the cell is empty."""


class NoWay(FloorError):
    """A way to touch is wanted, and what was handed in is none."""


class NoLoop(FloorError):
    """A loop on the floor is wanted, and what was handed in is none."""
