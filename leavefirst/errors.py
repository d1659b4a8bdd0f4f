"""The errors of the package: each keeps its arguments under their own names."""


class InvalidPlan(ValueError):
    """The value is no plan: part tells the first part that is wrong, or is None."""

    def __init__(self, part):
        self.part = part


class InvalidPrices(ValueError):
    """The value is no tuple of prices."""


class InvalidFees(ValueError):
    """The value is no tuple of fees."""


class InvalidClaim(ValueError):
    """The value is no claim, or none that is valid for the plan."""


class Tangled(ValueError):
    """The regime has a round: name is the least one that is before itself."""

    def __init__(self, name):
        self.name = name


class AstrayWalk(ValueError):
    """The walk goes astray at the read with this number."""

    def __init__(self, read):
        self.read = read


class Backward(ValueError):
    """The read with this number sees an older version than an earlier one did."""

    def __init__(self, read):
        self.read = read


class ParseError(ValueError):
    """The text is none of this kind: line is the index of the first wrong line."""

    def __init__(self, line):
        self.line = line


class UnknownName(LookupError):
    """The plan has no change of this name."""

    def __init__(self, name):
        self.name = name


class UnknownSign(LookupError):
    """The plan has no sign with this index."""

    def __init__(self, sign):
        self.sign = sign


class UnknownPlace(LookupError):
    """There is no such place."""

    def __init__(self, place):
        self.place = place


class UnknownStart(LookupError):
    """The plan has no such start."""

    def __init__(self, start):
        self.start = start


class UnknownWalker(LookupError):
    """The passage has no walker with this number."""

    def __init__(self, walker):
        self.walker = walker


class UnknownCheckpoint(LookupError):
    """The session has no checkpoint with this number."""

    def __init__(self, number):
        self.number = number


class UnknownRecord(LookupError):
    """The session has no record with this number."""

    def __init__(self, number):
        self.number = number


class Stuck(RuntimeError):
    """The deed with this index cannot be carried out."""

    def __init__(self, deed):
        self.deed = deed


class Done(RuntimeError):
    """The change was carried out before."""

    def __init__(self, name):
        self.name = name


class Waiting(RuntimeError):
    """The change waits for another one that is not done."""

    def __init__(self, name, other):
        self.name = name
        self.other = other


class Inside(RuntimeError):
    """The change is held up by a walker who is inside."""

    def __init__(self, name, walker):
        self.name = name
        self.walker = walker


class TooLate(RuntimeError):
    """The change was carried out before one that goes ahead of it in the new order."""

    def __init__(self, name):
        self.name = name


class Crossed(RuntimeError):
    """The change was carried out while somebody was inside whom the new regime drains."""

    def __init__(self, name):
        self.name = name


class Ended(RuntimeError):
    """The walker is at an end."""

    def __init__(self, walker):
        self.walker = walker


class TooMany(OverflowError):
    """The plan has more changes than this limit."""

    def __init__(self, limit):
        self.limit = limit


class LimitExceeded(OverflowError):
    """There are as many as this limit already."""

    def __init__(self, limit):
        self.limit = limit
