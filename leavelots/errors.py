"""The errors of the package: each keeps what it was created with."""


class LeaveError(ValueError):
    """The base of all errors of this package."""


class InvalidRule(LeaveError):
    """An argument of a rule is wrong: `word` is the name of its parameter."""

    def __init__(self, word):
        self.word = word


class InvalidRoom(LeaveError):
    """The thing with the index `at` is no rule."""

    def __init__(self, at):
        self.at = at


class InvalidText(LeaveError):
    """The line with the number `at` is no rule."""

    def __init__(self, at):
        self.at = at


class InvalidName(LeaveError):
    """`name` is not a name that may stand there."""

    def __init__(self, name):
        self.name = name


class InvalidOrder(LeaveError):
    """The thing with the index `at` may not stand there."""

    def __init__(self, at):
        self.at = at


class InvalidPrices(LeaveError):
    """The prices for `name` are missing or wrong."""

    def __init__(self, name):
        self.name = name


class InvalidDrawing(LeaveError):
    """The thing with the index `at` may not stand in the drawing."""

    def __init__(self, at):
        self.at = at


class InvalidCommand(LeaveError):
    """A desk was told what is no command."""


class NoRule(LeaveError):
    """There is no rule with the index `at`."""

    def __init__(self, at):
        self.at = at


class NoOrder(LeaveError):
    """There is no order with the number `at`."""

    def __init__(self, at):
        self.at = at


class Refused(LeaveError):
    """`name` may not leave now."""

    def __init__(self, name):
        self.name = name
