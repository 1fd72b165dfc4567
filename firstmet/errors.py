"""The errors of the package, one class for each kind of failure, all of them directly under MetError."""


class MetError(ValueError):
    """What every error of the package is."""


class BadShape(MetError):
    """The tables make no shape: at is the index of the first wrong one, -1 if they are no row of tables."""

    def __init__(self, at):
        self.at = at


class BadName(MetError):
    """No table, or no name: value is what was given as one."""

    def __init__(self, value):
        self.value = value


class BadStore(MetError):
    """No shape, or no store of the shape that is asked for: value is what was given as one."""

    def __init__(self, value):
        self.value = value


class BadRows(MetError):
    """Rows that a table cannot have: value is (table, index of the first wrong row)."""

    def __init__(self, value):
        self.value = value


class BadIndex(MetError):
    """No index of a thing that is there: value is what was given as one."""

    def __init__(self, value):
        self.value = value


class BadBlock(MetError):
    """The blocks are wrong: at is the index of the first wrong one, -1 if they are no row of blocks."""

    def __init__(self, at):
        self.at = at


class BadProgram(MetError):
    """No program: value is what was given as one, or the path of the first wrong statement."""

    def __init__(self, value):
        self.value = value


class BadPattern(MetError):
    """No pattern: at tells which part of it is wrong, -1 that it is none at all."""

    def __init__(self, at):
        self.at = at


class BadPair(MetError):
    """Two programs that cannot be compared: value is the other one."""

    def __init__(self, value):
        self.value = value


class BadMove(MetError):
    """A move that cannot be made: value is what was given as one."""

    def __init__(self, value):
        self.value = value


class BadAsk(MetError):
    """The asks are wrong: at is the index of the first wrong one, -1 if they are no row of asks."""

    def __init__(self, at):
        self.at = at


class BadAsks(MetError):
    """No asks: value is what was given as them."""

    def __init__(self, value):
        self.value = value


class BadPlan(MetError):
    """No plan of passes: value is what was given as one."""

    def __init__(self, value):
        self.value = value


class BadCount(MetError):
    """No number of passes: value is what was given as one."""

    def __init__(self, value):
        self.value = value


class BadText(MetError):
    """The text cannot be read: at is the number of the first wrong row, -1 if it is no text."""

    def __init__(self, at):
        self.at = at


class NotPlain(MetError):
    """A nest that is not plain: at is its index."""

    def __init__(self, at):
        self.at = at


class Unlike(MetError):
    """A move that is not right: value is a store on which the two programs give unlike lists."""

    def __init__(self, value):
        self.value = value


class NothingDone(MetError):
    """There is no deed to take back."""


class TooMany(MetError):
    """More rows or patterns than the package goes through."""


class TooLong(MetError):
    """More turns or ways than the package goes through."""
