"""The errors of the package."""


class ClaimError(ValueError):
    """A value that is passed is not of the form that it must have."""


class InvalidFrame(ClaimError):
    """This is no frame."""


class InvalidTerm(ClaimError):
    """This is no term, point or tuple of own names."""


class InvalidClaim(ClaimError):
    """This is no claim."""


class InvalidSituation(ClaimError):
    """This is no situation, or not one for the right frame."""


class InvalidQuestion(ClaimError):
    """This is no question."""


class InvalidFunction(ClaimError):
    """This is no function."""


class InvalidProgram(ClaimError):
    """This is no program."""


class InvalidOperation(ClaimError):
    """This can't be done with what was passed."""


class InvalidName(ClaimError):
    """This is no name."""


class ParseError(ClaimError):
    """A text is wrong from the character `index` on."""

    def __init__(self, index):
        ClaimError.__init__(self, "the text has no reading")
        self.index = index


class InvalidNumber(IndexError):
    """The value `number` is no integer that can stand there."""

    def __init__(self, number):
        IndexError.__init__(self, "no number that can stand here")
        self.number = number


class UnknownName(KeyError):
    """The value `name` is no name that is known there."""

    def __init__(self, name):
        KeyError.__init__(self, "no name that is known here")
        self.name = name


class NothingToUndo(LookupError):
    """There are fewer steps than `asked`."""

    def __init__(self, asked):
        LookupError.__init__(self, "not so many steps to undo")
        self.asked = asked


class TooMany(OverflowError):
    """There are more than `bound`."""

    def __init__(self, bound):
        OverflowError.__init__(self, "more than the bound")
        self.bound = bound


class Refused(ArithmeticError):
    """What was told is refused, and `reason` shows why."""

    def __init__(self, reason):
        ArithmeticError.__init__(self, "this is refused")
        self.reason = reason
