"""The errors of the package."""


class PlayError(Exception):
    """The base class of all errors of the package."""


class BadPoly(PlayError):
    """The value of a parameter is not a polynomial."""

    def __init__(self, thing):
        PlayError.__init__(self, "not a polynomial")
        self.thing = thing


class BadWord(PlayError):
    """The value of a parameter is not a word."""

    def __init__(self, thing):
        PlayError.__init__(self, "not a word")
        self.thing = thing


class BadScript(PlayError):
    """The value of a parameter is not a script."""

    def __init__(self, thing):
        PlayError.__init__(self, "not a script")
        self.thing = thing


class BadProgram(PlayError):
    """The value of a parameter is not a program."""

    def __init__(self, thing):
        PlayError.__init__(self, "not a program")
        self.thing = thing


class BadCode(PlayError):
    """The value of a parameter is not code that is accepted."""

    def __init__(self, thing):
        PlayError.__init__(self, "not code that is accepted")
        self.thing = thing


class BadMachine(PlayError):
    """The value of a parameter is not a machine."""

    def __init__(self, thing):
        PlayError.__init__(self, "not a machine")
        self.thing = thing


class BadNumber(PlayError):
    """The value of a parameter is not a number that is allowed there."""

    def __init__(self, thing):
        PlayError.__init__(self, "not a number that is allowed here")
        self.thing = thing


class BadText(PlayError):
    """A text cannot be read; at is the number of its first wrong line, 0 for no string."""

    def __init__(self, at):
        PlayError.__init__(self, "not a text that can be read")
        self.at = at


class BadPicks(PlayError):
    """The value of a parameter is not picks that are possible there."""

    def __init__(self, thing):
        PlayError.__init__(self, "not picks that are possible here")
        self.thing = thing


class BadPlayer(PlayError):
    """The value of a parameter is not a player."""

    def __init__(self, thing):
        PlayError.__init__(self, "not a player")
        self.thing = thing


class BadShape(PlayError):
    """The value of a parameter is not code."""

    def __init__(self, thing):
        PlayError.__init__(self, "not code")
        self.thing = thing


class BadStanding(PlayError):
    """The value of a parameter is not a standing."""

    def __init__(self, thing):
        PlayError.__init__(self, "not a standing")
        self.thing = thing


class BadFormula(PlayError):
    """The value of a parameter is not a formula that is allowed there."""

    def __init__(self, thing):
        PlayError.__init__(self, "not a formula that is allowed here")
        self.thing = thing


class BadFilling(PlayError):
    """The value of a parameter is not a filling that is allowed there."""

    def __init__(self, thing):
        PlayError.__init__(self, "not a filling that is allowed here")
        self.thing = thing


class BadTies(PlayError):
    """The value of a parameter is not ties."""

    def __init__(self, thing):
        PlayError.__init__(self, "not ties")
        self.thing = thing


class BadStep(PlayError):
    """The value of a parameter is not a simplifying step of the program."""

    def __init__(self, thing):
        PlayError.__init__(self, "not a simplifying step of this program")
        self.thing = thing


class NotOfOne(PlayError):
    """A program is not of one player."""

    def __init__(self):
        PlayError.__init__(self)
