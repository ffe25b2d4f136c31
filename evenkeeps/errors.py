"""All errors of the package, in three families."""


class TextError(ValueError):
    """The family of the errors about a value that does not suit."""


class InvalidText(TextError):
    """It is not a text of the kind that is read here."""

    def __init__(self, value):
        self.value = value


class NotARatio(TextError):
    """It is neither a Ratio nor a whole number."""

    def __init__(self, value):
        self.value = value


class NotASampler(TextError):
    """It is not a Sampler."""

    def __init__(self, value):
        self.value = value


class NotAJoin(TextError):
    """It is not a Join."""

    def __init__(self, value):
        self.value = value


class NotAPlayer(TextError):
    """It is not a Player."""

    def __init__(self, value):
        self.value = value


class InvalidLength(TextError):
    """It is not a length, or a step, that is allowed here."""

    def __init__(self, value):
        self.value = value


class InvalidItem(TextError):
    """It is not an item of this length."""

    def __init__(self, value):
        self.value = value


class InvalidPlace(TextError):
    """It is not the number of a place."""

    def __init__(self, value):
        self.value = value


class InvalidCount(TextError):
    """It is not a number, or a row of things, that is allowed here."""

    def __init__(self, value):
        self.value = value


class InvalidFraction(TextError):
    """It is not a fraction."""

    def __init__(self, value):
        self.value = value


class InvalidDraws(TextError):
    """The draw at this index does not suit."""

    def __init__(self, index):
        self.index = index


class InvalidEdit(TextError):
    """The part at this index does not suit; None for the whole."""

    def __init__(self, index):
        self.index = index


class ProgramError(LookupError):
    """The family of the errors about the conditions of a program."""


class UnknownPlace(ProgramError):
    """This line names a place that there is not."""

    def __init__(self, line):
        self.line = line


class NotDrawn(ProgramError):
    """This line tests a name that some way has not drawn before."""

    def __init__(self, line):
        self.line = line


class DrawnTwice(ProgramError):
    """This line draws a name that some way has drawn before."""

    def __init__(self, line):
        self.line = line


class BelowOne(ProgramError):
    """The form behind `below` in this line can be less than 1."""

    def __init__(self, line):
        self.line = line


class TooMuch(ProgramError):
    """There is more of this than a program may have."""

    def __init__(self, what):
        self.what = what


class Unsettled(ProgramError):
    """The test in this line is not settled on some way."""

    def __init__(self, line):
        self.line = line


class KeepError(RuntimeError):
    """The family of the errors about what cannot be done."""


class UnlikePlaces(KeepError):
    """Two samplers have unlike numbers of places."""


class NothingBack(KeepError):
    """There is nothing to take back."""


class Held(KeepError):
    """Nothing can be taken back for the time being."""


class ZeroBelow(KeepError):
    """The polynomial below the line is 0."""


class Gap(KeepError):
    """The ratio has no value at this number."""

    def __init__(self, at):
        self.at = at


class Missing(KeepError):
    """Nothing is kept under this name."""

    def __init__(self, name):
        self.name = name


class Refused(KeepError):
    """What is kept under this name does not meet the demand."""

    def __init__(self, name, demand):
        self.name = name
        self.demand = demand
