"""The errors of the package: each keeps the value that was not right."""


class FloorError(ValueError):
    """What every error of the package is."""

    def __init__(self, value):
        self.value = value


class InvalidKind(FloorError):
    """A kind that is not 2, 3 or 5."""


class InvalidNumber(FloorError):
    """A number, or an integer, that is none or not in its form."""


class InvalidPoint(FloorError):
    """A point that is none."""


class InvalidPlace(FloorError):
    """A place that is none."""


class InvalidPolygon(FloorError):
    """A polygon that is none."""


class InvalidFloor(FloorError):
    """A floor that is none."""


class InvalidRadius(FloorError):
    """A radius, or a distance, that is none."""


class InvalidBox(FloorError):
    """A box that is none."""


class InvalidPatch(FloorError):
    """A patch that is none."""


class InvalidPair(FloorError):
    """Things that do not go together."""


class NoPatch(FloorError):
    """A patch that does not come."""


class NotInFloor(FloorError):
    """A place that is not one of the floor."""


class DividedByZero(FloorError):
    """A number that is to be divided by 0."""


class InvalidMatrix(FloorError):
    """A matrix that is none."""


class InvalidUnit(FloorError):
    """A unit that is none."""


class InvalidRule(FloorError):
    """A rule that is none."""


class InvalidRow(FloorError):
    """A row that is none."""


class InvalidMember(FloorError):
    """A member that the row has not."""


class InvalidWord(FloorError):
    """A word that is none."""


class InvalidName(FloorError):
    """A name that is none."""


class NoWord(FloorError):
    """A word that does not come."""


class NotWithin(FloorError):
    """A row that does not lie within the other one."""


class UnknownName(FloorError):
    """A name that nothing has."""


class WrongKind(FloorError):
    """A name of a thing of the other sort."""


class NothingToUndo(FloorError):
    """There is nothing that can be taken back."""


class Unreadable(FloorError):
    """A text that can not be read."""


class Unorderly(FloorError):
    """A text that is no order."""
