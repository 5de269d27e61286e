"""The errors of the program, in their order of precedence."""


class WardError(ValueError):
    """Every error of the program is below this class."""


class SourceError(WardError):
    """A text or a list of source rows has a mistake in a line."""

    def __init__(self, line):
        WardError.__init__(self, f"a mistake in line {line}")
        self.line = line


class BadArgument(WardError):
    """An argument is not one of the told values."""

    def __init__(self, name):
        WardError.__init__(self, f"{name} is none of the told values")
        self.name = name


class BadText(SourceError):
    """A text cannot be read."""

    def __init__(self, line, column):
        SourceError.__init__(self, line)
        self.column = column


class LabelTwice(SourceError):
    """A label is defined twice."""

    def __init__(self, line, label):
        SourceError.__init__(self, line)
        self.label = label


class LabelMissing(SourceError):
    """A label is used and never defined."""

    def __init__(self, line, label):
        SourceError.__init__(self, line)
        self.label = label


class TooLong(SourceError):
    """A program has too many words."""


class Unknown(WardError):
    """A named thing is not there."""

    def __init__(self, what):
        WardError.__init__(self, f"{what} is not there")
        self.what = what


class Taken(WardError):
    """Something is there already."""

    def __init__(self, what):
        WardError.__init__(self, f"{what} is there already")
        self.what = what


class NotAllowed(WardError):
    """A right is missing."""

    def __init__(self, what):
        WardError.__init__(self, f"{what} does not give this right")
        self.what = what


class WrongState(WardError):
    """The thing is in a state that does not allow the call."""

    def __init__(self, what):
        WardError.__init__(self, f"{what} is in a state that does not allow this")
        self.what = what


class RingOfWaits(WardError):
    """The process would wait in a ring."""

    def __init__(self, ring):
        WardError.__init__(self, "the process would wait in a ring")
        self.ring = list(ring)


class Full(WardError):
    """There is no room."""

    def __init__(self, what):
        WardError.__init__(self, f"no room: {what}")
        self.what = what


class Stopped(WardError):
    """The disk has stopped."""

    def __init__(self, done):
        WardError.__init__(self, f"the disk has stopped after {done} writes")
        self.done = done
