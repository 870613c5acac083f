"""The refusals of the program."""


class DuelError(ValueError):
    """Any refusal."""


class BadText(DuelError):
    """A text that does not write what is to be read from it."""


class NoWay(DuelError):
    """A room without ways."""


class NoRoom(DuelError):
    """A number that is no room of the hall."""


class NotRising(DuelError):
    """A way that is not greater than the one ahead of it."""


class BadMove(DuelError):
    """A move that is no way of its room."""


class Free(DuelError):
    """A name that no least or most round it binds."""


class Again(DuelError):
    """A least or most that binds a name which is bound round it already."""
