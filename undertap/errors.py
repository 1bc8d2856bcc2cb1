"""The errors of the package: TapError and, directly below it, one for each kind of failure."""


# An attribute may be any value, and later changes of what was passed must have
# no effect on it: so the errors keep copies.
def copied(value):
    """The value with lists and dicts of its own, at every depth."""
    if isinstance(value, list):
        return [copied(item) for item in value]
    if isinstance(value, tuple):
        return tuple([copied(item) for item in value])
    if isinstance(value, dict):
        return {key: copied(value[key]) for key in value}
    return value


class TapError(ValueError):
    """The base class of the errors; it has a message."""


class BadRule(TapError):
    """A parameter of a rule is none; part is its name, or None where no parameter is named."""

    def __init__(self, part):
        self.part = copied(part)


class BadHouse(TapError):
    """A parameter of a house, or a house itself, is none; part is the name of the parameter."""

    def __init__(self, part):
        self.part = copied(part)


class BadStanding(TapError):
    """A value is no standing of the house; it has a message."""


class BadMoment(TapError):
    """A moment cannot come; at is its index, or None where there is none."""

    def __init__(self, at):
        self.at = copied(at)


class BadWish(TapError):
    """A value is no wish; at is its index, or None where there is none."""

    def __init__(self, at):
        self.at = copied(at)


class BadMeasure(TapError):
    """A value is no measure; it has a message."""


class BadScreens(TapError):
    """A value is no list of screens; at is the index of the wrong item, or None."""

    def __init__(self, at):
        self.at = copied(at)


class OtherHouses(TapError):
    """Two houses differ in more than their rules; it has a message."""


class TooMany(TapError):
    """More come than can be looked through; most is how many may come."""

    def __init__(self, most):
        self.most = copied(most)


class NothingDone(TapError):
    """There is no tick that can be taken back; it has a message."""


class BadJournal(TapError):
    """A journal is wrong; at is the index of its first wrong entry."""

    def __init__(self, at):
        self.at = copied(at)


class BadText(TapError):
    """A text cannot be read; line is the number, from 0, of its first wrong line."""

    def __init__(self, line):
        self.line = copied(line)
