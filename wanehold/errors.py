"""The refusals: each a class straight under WaneError."""


class WaneError(ValueError):
    """What all refusals stand under."""


class Wrong(WaneError):
    """The thing handed in at this place isn't as told."""

    def __init__(self, place):
        self.place = place


class NoText(WaneError):
    """Not a text that is written just so."""


class TooMany(WaneError):
    """More than this."""

    def __init__(self, most):
        self.most = most


class There(WaneError):
    """The name is there already."""

    def __init__(self, name):
        self.name = name


class Gone(WaneError):
    """The name isn't there."""

    def __init__(self, name):
        self.name = name


class NoAsker(WaneError):
    """No asker that is kept has this number."""

    def __init__(self, number):
        self.number = number


class TooFar(WaneError):
    """More turns than this, and nothing comes again within them."""

    def __init__(self, most):
        self.most = most


class Busy(WaneError):
    """There is an asker or a mender where none may be."""


class NoNumber(WaneError):
    """There are not so many lists."""

    def __init__(self, number):
        self.number = number


class NotOne(WaneError):
    """The list isn't one of those that fit."""


class Unlike(WaneError):
    """Two stores are too unlike to be joined."""


class Full(WaneError):
    """The room at this place can't hold what it is to hold."""

    def __init__(self, place):
        self.place = place


class NoDeed(WaneError):
    """No deed that is kept has this number."""

    def __init__(self, number):
        self.number = number


class NoRow(WaneError):
    """Not a row that a desk knows."""


class NoName(WaneError):
    """No store has this name."""

    def __init__(self, name):
        self.name = name


class Nothing(WaneError):
    """There is nothing to be undone, or done once more."""
