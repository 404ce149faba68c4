"""All errors of the package; each is made with just its fields, and keeps them."""


class CellError(ValueError):
    """What all errors of the package have in common."""


class BadProgram(CellError):
    """A part of a program, told by its name, is not as it has to be."""

    def __init__(self, part):
        self.part = part


class Stuck(CellError):
    """A ring of links sums to 0 rounds, so no step on it can ever be done."""

    def __init__(self, ring):
        self.ring = ring


class NoStep(CellError):
    """What was passed is no step of the program."""

    def __init__(self):
        pass


class NoOrder(CellError):
    """What was passed is no lawful order of the program."""

    def __init__(self):
        pass


class NoChoices(CellError):
    """What was passed is no list or tuple of choices."""

    def __init__(self):
        pass


class NoNumber(CellError):
    """What was passed is no integer, or none that may stand there."""

    def __init__(self):
        pass


class NoDoing(CellError):
    """What was passed is no doing of the program."""

    def __init__(self):
        pass


class NoMaker(CellError):
    """What was passed is no maker of the program."""

    def __init__(self):
        pass


class NoValue(CellError):
    """What was passed is no value of the program, or the same one twice."""

    def __init__(self):
        pass


class NoFollowing(CellError):
    """What was passed is no following, or there is none."""

    def __init__(self):
        pass


class NoTable(CellError):
    """What was passed is no table for the program."""

    def __init__(self):
        pass


class NoCell(CellError):
    """A stranger gave no integer as the cell of this value."""

    def __init__(self, value):
        self.value = value


class TooMany(CellError):
    """There is more to be gone through than this many."""

    def __init__(self, most):
        self.most = most


class NoCrowd(CellError):
    """What was passed is no crowd."""

    def __init__(self):
        pass


class NoKinds(CellError):
    """What was passed are no kinds."""

    def __init__(self):
        pass


class NoPrices(CellError):
    """What was passed are no prices."""

    def __init__(self):
        pass


class NoShort(CellError):
    """What was passed is no short following."""

    def __init__(self):
        pass


class NoTimes(CellError):
    """What was passed are no times."""

    def __init__(self):
        pass


class NoFraction(CellError):
    """What was passed is no fraction."""

    def __init__(self):
        pass


class NoLinks(CellError):
    """What was passed are no links."""

    def __init__(self):
        pass


class NoNumbers(CellError):
    """What was passed are no new numbers of the steps."""

    def __init__(self):
        pass


class NoLink(CellError):
    """What was passed is no link of the program."""

    def __init__(self):
        pass


class NothingDone(CellError):
    """Nothing was done that could be taken back."""

    def __init__(self):
        pass


class BadText(CellError):
    """A text is not as it has to be in this line."""

    def __init__(self, line):
        self.line = line


class NoLine(CellError):
    """What was passed is no line that the desk knows."""

    def __init__(self):
        pass


class NoName(CellError):
    """The desk holds no program of this name."""

    def __init__(self, name):
        self.name = name


class NotRight(CellError):
    """The table is not right."""

    def __init__(self):
        pass


class NotYet(CellError):
    """The step cannot be done next."""

    def __init__(self):
        pass


class Full(CellError):
    """No cell is left for this value."""

    def __init__(self, value):
        self.value = value


class NoCounts(CellError):
    """What was passed are no counts."""

    def __init__(self):
        pass
