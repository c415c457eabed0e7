"""The errors of the package. Each keeps its fields as attributes, just as they are."""


class CycleError(ValueError):
    """What every error of the package is."""


class BadLine(CycleError):
    """A line of a text is wrong from a column on."""

    def __init__(self, line, column):
        self.line = line
        self.column = column


class BadNumber(CycleError):
    """A number is not one that may stand for what it is told for."""

    def __init__(self, what, number):
        self.what = what
        self.number = number


class BadRow(CycleError):
    """A value is no row of the kind that is asked for."""

    def __init__(self, row):
        self.row = row


class BadName(CycleError):
    """A name can't be taken on."""

    def __init__(self, name):
        self.name = name


class BadWidth(CycleError):
    """An expression has another width than the one that is wanted."""

    def __init__(self, name, wanted, told):
        self.name = name
        self.wanted = wanted
        self.told = told


class NoName(CycleError):
    """Nothing of the kind that is asked for has this name."""

    def __init__(self, name):
        self.name = name


class TakenName(CycleError):
    """Something ahead has this name already."""

    def __init__(self, name):
        self.name = name


class Unlike(CycleError):
    """Two things differ that must be alike."""

    def __init__(self, what):
        self.what = what


class Missing(CycleError):
    """There is no output of this name that would do."""

    def __init__(self, name):
        self.name = name


class NotKept(CycleError):
    """An edit would break a wish, as these rows of inputs show."""

    def __init__(self, name, rows):
        self.name = name
        self.rows = rows


class NothingToUndo(CycleError):
    """No edit stands that could be taken back."""


class NothingToRedo(CycleError):
    """No edit was taken back that could be done again."""
