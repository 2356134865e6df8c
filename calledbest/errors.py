"""The errors of the package; each keeps what it is constructed of."""


class CallError(ValueError):
    """What all errors of the package are; it is raised nowhere itself."""


class Crosses(CallError):
    """The house has a crossing."""

    def __init__(self, crossing):
        self.crossing = crossing


class NoBrief(CallError):
    """The turn with this index has no brief."""

    def __init__(self, index):
        self.index = index


class NoCall(CallError):
    """The house has no such call."""

    def __init__(self, call):
        self.call = call


class NoCommand(CallError):
    """The line is no command."""


class NoDeed(CallError):
    """The value is no deed of the house."""


class NoIndex(CallError):
    """The value is no index of what is asked for."""

    def __init__(self, index):
        self.index = index


class NoKind(CallError):
    """The house, or the call, has no such kind."""

    def __init__(self, kind):
        self.kind = kind


class NoNumber(CallError):
    """The number cannot come about."""

    def __init__(self, number):
        self.number = number


class NoText(CallError):
    """The line with this index shows nothing that could stand there."""

    def __init__(self, line):
        self.line = line


class NotCrossed(CallError):
    """The house has no crossing."""


class Nothing(CallError):
    """Nothing can be taken back, or done again."""


class NotNested(CallError):
    """The house has a fork."""

    def __init__(self, fork):
        self.fork = fork


class TooLate(CallError):
    """The day is forgotten."""

    def __init__(self, day):
        self.day = day


class TooMany(CallError):
    """There are more than this many."""

    def __init__(self, most):
        self.most = most


class Used(CallError):
    """A thing with this name has been put before."""

    def __init__(self, name):
        self.name = name


class Wrong(CallError):
    """The argument with this place is not as described."""

    def __init__(self, place):
        self.place = place
