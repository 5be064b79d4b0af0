"""The errors of the package.

No error words its fields when it is created: a field may be any value,
also an integer that is too long for a text.
"""


class FoeError(ValueError):
    """What all errors of the package derive from."""


class BadText(FoeError):
    """A text is wrong at this line and column."""

    def __init__(self, line, column):
        self.line = line
        self.column = column


class BadNumber(FoeError):
    """A value is not a number (or a row, or an end) of the described kind."""

    def __init__(self, what, number):
        self.what = what
        self.number = number


class BadName(FoeError):
    """A value is not one of the names that may stand here."""

    def __init__(self, name):
        self.name = name


class BadChoice(FoeError):
    """A choice has no move that is let at this place."""

    def __init__(self, place):
        self.place = place


class BadPaper(FoeError):
    """A paper is not one of the described kind."""

    def __init__(self, what):
        self.what = what


class Untold(FoeError):
    """A text does not tell what happens on this board for these words."""

    def __init__(self, board, words):
        self.board = board
        self.words = words


class NotPlain(FoeError):
    """A plain object is asked for, and this one is not plain."""

    def __init__(self, what):
        self.what = what


class HasLetter(FoeError):
    """An object without the letter e is asked for."""


class NoLetter(FoeError):
    """An object with the letter e is asked for."""


class AllBarred(FoeError):
    """All moves are barred at this standing."""

    def __init__(self, standing):
        self.standing = standing


class Unlike(FoeError):
    """Two objects do not belong together."""

    def __init__(self, what):
        self.what = what


class TooMany(FoeError):
    """There would be more items than the limit."""

    def __init__(self, what, many, limit):
        self.what = what
        self.many = many
        self.limit = limit


class TooLarge(FoeError):
    """A number is above the limit."""

    def __init__(self, what, number, limit):
        self.what = what
        self.number = number
        self.limit = limit


class NoSolution(FoeError):
    """There is no solution, or more than one."""


class NoName(FoeError):
    """Nothing has this name."""

    def __init__(self, name):
        self.name = name


class TakenName(FoeError):
    """The name is in use."""

    def __init__(self, name):
        self.name = name


class NotKept(FoeError):
    """A promise would be broken, as the witness shows."""

    def __init__(self, promise, witness):
        self.promise = promise
        self.witness = witness


class NothingToUndo(FoeError):
    """There is no edit to take back."""


class NothingToRedo(FoeError):
    """There is no edit to do again."""
