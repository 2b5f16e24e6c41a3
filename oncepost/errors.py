"""The errors of the package, each with its fields as attributes."""


class InvalidHandler(ValueError):
    """A value that is no handler."""

    def __init__(self, value):
        self.value = value


class InvalidRows(ValueError):
    """A value that is no rows."""

    def __init__(self, value):
        self.value = value


class InvalidMessage(ValueError):
    """A value that is no message."""

    def __init__(self, value):
        self.value = value


class InvalidWay(ValueError):
    """A value that is no way."""

    def __init__(self, value):
        self.value = value


class InvalidService(ValueError):
    """What of a service is not as it must be."""

    def __init__(self, reason):
        self.reason = reason


class InvalidSystem(ValueError):
    """What of a system is not as it must be."""

    def __init__(self, reason):
        self.reason = reason


class NotPlayed(ValueError):
    """The index of the first step that is not possible."""

    def __init__(self, index):
        self.index = index


class InvalidState(ValueError):
    """A value that no state can be made of."""

    def __init__(self, value):
        self.value = value


class InvalidTest(ValueError):
    """A value that is no test."""

    def __init__(self, test):
        self.test = test


class InvalidCut(ValueError):
    """A value that is no cut, or not a whole one."""

    def __init__(self, cut):
        self.cut = cut


class OtherWorld(ValueError):
    """Two systems have not the same kinds of the world."""

    def __init__(self):
        super().__init__()


class InvalidCount(ValueError):
    """A value that is no number, or no numbers, of the asked form."""

    def __init__(self, value):
        self.value = value


class NoFact(LookupError):
    """A value that is no fact of the schedule."""

    def __init__(self, fact):
        self.fact = fact


class NoThing(LookupError):
    """A value that is no thing of the state."""

    def __init__(self, thing):
        self.thing = thing


class NoWord(LookupError):
    """A value that is none of the words that may be asked for."""

    def __init__(self, word):
        self.word = word


class NoService(LookupError):
    """A value that is no name of a service."""

    def __init__(self, value):
        self.value = value


class OutOfRange(LookupError):
    """A value that is not in the range."""

    def __init__(self, count):
        self.count = count


class TooMany(OverflowError):
    """There are more than the most that are gone through."""

    def __init__(self, most):
        self.most = most
