"""The errors of the package, each with the field that the document names."""


def _as_passed(value):
    """The value, a list or dict as a copy: whoever passed it may change it later."""
    if isinstance(value, list):
        return list(value)
    if isinstance(value, dict):
        return {key: value[key] for key in value}
    return value


class StandError(ValueError):
    """Any argument that is refused."""


class BadThings(StandError):
    """A value is no things, or things are not those that are wanted."""

    def __init__(self, value):
        StandError.__init__(self, "these things are refused")
        self.value = _as_passed(value)


class BadLot(StandError):
    """A value is no lot of the things."""

    def __init__(self, value):
        StandError.__init__(self, "no lot of the things")
        self.value = _as_passed(value)


class BadCounts(StandError):
    """Numbers or lots make no family; the place tells why."""

    def __init__(self, place):
        StandError.__init__(self, "no family has these counts or lots")
        self.place = _as_passed(place)


class BadMaker(StandError):
    """A family cannot be made of this; the place tells why."""

    def __init__(self, place):
        StandError.__init__(self, "no family can be made of this")
        self.place = _as_passed(place)


class BadNumber(StandError):
    """A number, or what holds numbers, is refused."""

    def __init__(self, value):
        StandError.__init__(self, "this number is refused")
        self.value = _as_passed(value)


class BadClaim(StandError):
    """A value is no claim on the things."""

    def __init__(self, value):
        StandError.__init__(self, "no claim on the things")
        self.value = _as_passed(value)


class BadFacts(StandError):
    """Facts make no book; the number tells which of them is refused."""

    def __init__(self, number):
        StandError.__init__(self, "these facts are refused")
        self.number = _as_passed(number)


class BadPaper(StandError):
    """A paper does not hold; the place tells why."""

    def __init__(self, place):
        StandError.__init__(self, "this paper does not hold")
        self.place = _as_passed(place)


class BadText(StandError):
    """A text cannot be read; the line is the first one that cannot stand there."""

    def __init__(self, line):
        StandError.__init__(self, "this text cannot be read")
        self.line = _as_passed(line)


class Quarrel(LookupError):
    """A book is not possible; the tree is a quarrel of it."""

    def __init__(self, tree):
        LookupError.__init__(self, "the book is not possible")
        self.tree = _as_passed(tree)


class TooMany(OverflowError):
    """More is wanted than there may be at most."""

    def __init__(self, most):
        OverflowError.__init__(self, "more is wanted than there may be at most")
        self.most = _as_passed(most)
