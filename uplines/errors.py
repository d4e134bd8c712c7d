"""The errors of the package, in four families."""


class SheetError(ValueError):
    """A value that was passed is not valid."""


class InvalidName(SheetError):
    """A value is no name."""

    def __init__(self, value):
        self.value = value


class InvalidLevel(SheetError):
    """A value is no number of a level."""

    def __init__(self, value):
        self.value = value


class InvalidNumber(SheetError):
    """A value is no number that can stand there."""

    def __init__(self, value):
        self.value = value


class InvalidPair(SheetError):
    """A value is no pair of the sheet."""

    def __init__(self, value):
        self.value = value


class InvalidLine(SheetError):
    """A value is no line that can stand there."""

    def __init__(self, value):
        self.value = value


class InvalidOrder(SheetError):
    """A value is no order of the level."""

    def __init__(self, value):
        self.value = value


class InvalidOrders(SheetError):
    """A value does not tell orders of levels."""

    def __init__(self, value):
        self.value = value


class InvalidDrawing(SheetError):
    """A value is no drawing that can stand there."""

    def __init__(self, value):
        self.value = value


class InvalidSheet(SheetError):
    """A value is no sheet."""

    def __init__(self, value):
        self.value = value


class InvalidClaim(SheetError):
    """A value is no claim."""

    def __init__(self, value):
        self.value = value


class InvalidCommand(SheetError):
    """A value is no command."""

    def __init__(self, value):
        self.value = value


class InvalidLevels(SheetError):
    """No list of levels, or the first of them that is wrong."""

    def __init__(self, position):
        self.position = position


class InvalidNodes(SheetError):
    """No list of nodes, or the first of them that is wrong."""

    def __init__(self, position):
        self.position = position


class InvalidLines(SheetError):
    """No list of lines, or the first of them that is wrong."""

    def __init__(self, position):
        self.position = position


class InvalidPairs(SheetError):
    """No list of pairs, or the first of them that is wrong."""

    def __init__(self, position):
        self.position = position


class InvalidWalk(SheetError):
    """No walk, or the first of its pairs that is wrong."""

    def __init__(self, position):
        self.position = position


class InvalidText(SheetError):
    """The first line of a text that cannot stand there."""

    def __init__(self, line):
        self.line = line


class MissingError(LookupError):
    """What was asked for is not there."""


class UnknownNode(MissingError):
    """A value is no node of the sheet."""

    def __init__(self, value):
        self.value = value


class UnknownLine(MissingError):
    """A value is no line of the sheet."""

    def __init__(self, value):
        self.value = value


class StateError(RuntimeError):
    """What was asked for cannot be done as things stand."""


class NameTaken(StateError):
    """A name is there already."""

    def __init__(self, value):
        self.value = value


class NothingClean(StateError):
    """There is no clean drawing."""


class Refused(StateError):
    """A step or a line cannot be made."""

    def __init__(self, value):
        self.value = value


class OtherSheets(StateError):
    """Two sheets that have to be equal are not."""

    def __init__(self, one, other):
        self.one = one
        self.other = other


class OtherLevels(StateError):
    """Two sheets do not have as many levels."""

    def __init__(self, one, other):
        self.one = one
        self.other = other


class NotTrue(StateError):
    """A claim is not true."""


class NothingToUndo(StateError):
    """There is nothing that could be taken back."""


class CommandFailed(StateError):
    """A command in a list of commands raised an error."""

    def __init__(self, position):
        self.position = position


class LimitError(ArithmeticError):
    """Something is larger than it may be."""


class TooMany(LimitError):
    """There are more of something than its limit lets."""

    def __init__(self, what, limit):
        self.what = what
        self.limit = limit
