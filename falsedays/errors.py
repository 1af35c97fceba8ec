"""The errors of the package, each with just the fields that it is made with."""


class FalseError(ValueError):
    """Every error of the package is one of these."""


class BadOffice(FalseError):
    """A part of an office is not as told; part is its name."""

    def __init__(self, part):
        self.part = part


class NoDay(FalseError):
    """This is no day of the office, or not one as it is asked for."""

    def __init__(self):
        pass


class NoNumber(FalseError):
    """This is no integer, or none within the bounds."""

    def __init__(self):
        pass


class TooMany(FalseError):
    """There are more than most of what is to be listed."""

    def __init__(self, most):
        self.most = most


class NoSteps(FalseError):
    """This is no tuple of steps of the office."""

    def __init__(self):
        pass


class NoLot(FalseError):
    """This is no lot of places of the day."""

    def __init__(self):
        pass


class NoFact(FalseError):
    """This is no fact for the office."""

    def __init__(self):
        pass


class NoBoard(FalseError):
    """This is no board of the office."""

    def __init__(self):
        pass


class NoNote(FalseError):
    """This is no note of the office."""

    def __init__(self):
        pass


class NotSure(FalseError):
    """The office is not sure."""

    def __init__(self):
        pass


class NoSlips(FalseError):
    """This is no tuple of slips of the office."""

    def __init__(self):
        pass


class NoWorths(FalseError):
    """These are no worths for the answers of the office."""

    def __init__(self):
        pass


class NoColours(FalseError):
    """These are no colours for the marks of the office."""

    def __init__(self):
        pass


class NoClaims(FalseError):
    """These are no claims for the board."""

    def __init__(self):
        pass


class NotChained(FalseError):
    """The first office has more answers than the second one has slips."""

    def __init__(self):
        pass


class OtherSizes(FalseError):
    """The sizes of the two offices are unlike."""

    def __init__(self):
        pass


class BadText(FalseError):
    """A text cannot be read; line is the number of the line, 0 for what is no string."""

    def __init__(self, line):
        self.line = line


class NoStep(FalseError):
    """This is no step of the office."""

    def __init__(self):
        pass


class NoMark(FalseError):
    """This is no mark of the office, or not one that is there."""

    def __init__(self):
        pass


class NothingDone(FalseError):
    """There is nothing to take back."""

    def __init__(self):
        pass


class NoLine(FalseError):
    """This is no line for the desk."""

    def __init__(self):
        pass


class NoName(FalseError):
    """There is no office of this name."""

    def __init__(self, name):
        self.name = name


class NoWeb(FalseError):
    """This is no web for so many people."""

    def __init__(self):
        pass


class NoTree(FalseError):
    """This web is no tree, or lacks a place."""

    def __init__(self):
        pass


class NoShape(FalseError):
    """This is no shape."""

    def __init__(self):
        pass


class NoClerk(FalseError):
    """The clerk gives something that is no answer with a mark, or no last mark, at this place."""

    def __init__(self, place):
        self.place = place


class NoStanding(FalseError):
    """This is no standing of the office."""

    def __init__(self):
        pass


class NoMove(FalseError):
    """This is no index of a move."""

    def __init__(self):
        pass


class NoPrices(FalseError):
    """These are no prices for the places of the day."""

    def __init__(self):
        pass


class NotWhole(FalseError):
    """The office is not whole."""

    def __init__(self):
        pass
