"""All errors of the package."""


class TouchError(ValueError):
    """What is passed is not of the form that is asked for."""


class InvalidScene(TouchError):
    """It is no scene, or there is no such scene."""


class InvalidBase(TouchError):
    """It is no base, no row, or there is no such base."""


class InvalidView(TouchError):
    """It is no view of the scene."""


class InvalidRole(TouchError):
    """It is no role, or no door, of the scene."""


class InvalidOperation(TouchError):
    """An argument does not fit, or what is asked for can't be done."""


class InvalidEdit(TouchError):
    """It is no edit of a desk."""


class ParseError(TouchError):
    """It is not the text of such a value."""


class InvalidCommand(TouchError):
    """It is no command of a shell."""


class InvalidNumber(IndexError):
    """The value is not an integer of at least 0."""

    def __init__(self, value):
        self.value = value


class UnknownName(KeyError):
    """There is nothing with this name."""

    def __init__(self, name):
        self.name = name


class TooMany(OverflowError):
    """There would be more than the limit."""

    def __init__(self, limit):
        self.limit = limit


class NotThere(LookupError):
    """The row is there fewer times than it is to be taken out."""

    def __init__(self, row):
        self.row = row


class Strained(ArithmeticError):
    """The bridge shows that there is no quiet book."""

    def __init__(self, bridge):
        self.bridge = bridge


class NothingToUndo(ArithmeticError):
    """There are fewer groups than so many."""

    def __init__(self, many):
        self.many = many
