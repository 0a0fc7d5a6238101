"""The errors of the package."""


class PartsError(ValueError):
    """A value that was passed is not valid."""


class StateError(RuntimeError):
    """What was asked does not go with how things stand."""


class LimitError(ArithmeticError):
    """Something is larger than the package goes."""


class InvalidText(PartsError):
    """A value that is no text, or no text over the letters."""

    def __init__(self, value):
        self.value = value


class InvalidLetters(PartsError):
    """A value that is not one to three unlike small letters, rising."""

    def __init__(self, value):
        self.value = value


class InvalidLetter(PartsError):
    """A value that is none of the letters."""

    def __init__(self, value):
        self.value = value


class InvalidNumber(PartsError):
    """A value that is no count."""

    def __init__(self, value):
        self.value = value


class InvalidPlace(PartsError):
    """A value that is no place of the machine."""

    def __init__(self, value):
        self.value = value


class InvalidMachine(PartsError):
    """A value that is no machine."""

    def __init__(self, value):
        self.value = value


class InvalidProduct(PartsError):
    """A value that is no product."""

    def __init__(self, value):
        self.value = value


class InvalidSum(PartsError):
    """A value that is no sum."""

    def __init__(self, value):
        self.value = value


class InvalidTest(PartsError):
    """A value that is no test."""

    def __init__(self, value):
        self.value = value


class InvalidLine(PartsError):
    """A value that is no line over the letters."""

    def __init__(self, value):
        self.value = value


class InvalidClaim(PartsError):
    """A value that is no claim."""

    def __init__(self, value):
        self.value = value


class InvalidCommand(PartsError):
    """A value that is no command."""

    def __init__(self, value):
        self.value = value


class InvalidRows(PartsError):
    """Rows of goals that make no machine; the position of the first wrong one, or None."""

    def __init__(self, position):
        self.position = position


class InvalidKinds(PartsError):
    """Kinds that do not fit the rows; the position of the first wrong one, or None."""

    def __init__(self, position):
        self.position = position


class InvalidProducts(PartsError):
    """A list of products with a wrong one at the position; None for no list."""

    def __init__(self, position):
        self.position = position


class InvalidTexts(PartsError):
    """A list of texts with a wrong one at the position; None for no list."""

    def __init__(self, position):
        self.position = position


class InvalidPlaces(PartsError):
    """A list of places with a wrong one at the position; None for no list."""

    def __init__(self, position):
        self.position = position


class InvalidLevels(PartsError):
    """A list of levels with a wrong one at the position; None for no list."""

    def __init__(self, position):
        self.position = position


class InvalidRow(PartsError):
    """A written machine or sum with a wrong line; the row counts lines from 1."""

    def __init__(self, row):
        self.row = row


class OtherLetters(StateError):
    """Two that belong together have unlike letters."""

    def __init__(self, one, other):
        self.one = one
        self.other = other


class NotComeTo(StateError):
    """A place to which no text leads."""

    def __init__(self, place):
        self.place = place


class NeverHeard(StateError):
    """What was heard cannot be heard."""

    def __init__(self, value):
        self.value = value


class NothingToUndo(StateError):
    """No change is left that could be taken back."""


class CommandFailed(StateError):
    """The command at this position failed; its error is the cause."""

    def __init__(self, position):
        self.position = position


class TooMany(LimitError):
    """More of something than the limit lets."""

    def __init__(self, what, limit):
        self.what = what
        self.limit = limit
