"""The errors that the package raises."""


def _copied(value):
    """The value, with lists and tuples of its own, so that no caller's list is kept."""
    if isinstance(value, list):
        return [_copied(item) for item in value]
    if isinstance(value, tuple):
        return tuple([_copied(item) for item in value])
    return value


class NoBlock(LookupError):
    """The floor has no such block."""

    def __init__(self, block):
        self.block = _copied(block)


class NoCell(LookupError):
    """The floor has no such cell."""

    def __init__(self, cell):
        self.cell = _copied(cell)


class NoFace(LookupError):
    """The floor has no such face."""

    def __init__(self, face):
        self.face = _copied(face)


class NoTie(LookupError):
    """The floor has no such tie."""

    def __init__(self, tie):
        self.tie = _copied(tie)


class NothingDone(LookupError):
    """There is nothing to take back, or to do once more."""


class BadText(ValueError):
    """A text has a fault in this line."""

    def __init__(self, line):
        self.line = line


class Broken(ValueError):
    """A plan can't go on at this place."""

    def __init__(self, place):
        self.place = place


class CanNot(ValueError):
    """What is asked for can't be."""


class TooMany(ValueError):
    """There are too many to be told."""


class Unfit(ValueError):
    """What was handed in is not such a value as it must be."""
