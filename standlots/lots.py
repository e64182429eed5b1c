"""Things, lots of them, and the rules that bind the counts of lots."""

from standlots.errors import BadThings
from standlots.kinds import is_ascending, is_word

MOST_THINGS = 5


def need_things(thing):
    """The value itself, if it is things."""
    if not is_things(thing):
        raise BadThings(thing)
    return thing


def is_things(value):
    """Whether any value is things."""
    if not isinstance(value, tuple) or not 1 <= len(value) <= MOST_THINGS:
        return False
    return all([is_word(word) for word in value]) and is_ascending(value)


def is_lot(things, thing):
    """Whether any value is a lot of the things."""
    return place_of(things, thing) is not None


def place_of(things, thing):
    """The place of a lot of the things in all_lots, or None for any other value."""
    if not isinstance(thing, tuple):
        return None
    many = 1 << len(things)
    place = 0
    least = 0
    for word in thing:
        # Only words are compared: a value of another kind may be equal to whatever it likes.
        if not isinstance(word, str) or word not in things:
            return None
        at = things.index(word)
        if at < least:
            return None
        # Ahead of it stand the lots that go on with an earlier thing.
        place = place + 1 + (many >> least) - (many >> at)
        least = at + 1
    return place


def all_lots(things):
    """The tuple of all lots in their order."""
    lots = [()]
    for first in things[::-1]:
        # A lot that begins with the first thing stands ahead of all others but ().
        lots = [()] + [(first,) + lot for lot in lots] + lots[1:]
    return tuple(lots)


def joined(one, other):
    """The ascending tuple of what is in one of two lots or in both."""
    return tuple(sorted(set(one + other)))


def without(one, other):
    """The ascending tuple of what is in the first one of two lots alone."""
    return tuple([word for word in one if word not in other])


def rules(things):
    """The tuple of the names of the rules in their order."""
    steps = []
    pairs = []
    for lot in all_lots(things):
        beside = without(things, lot)
        for number, first in enumerate(beside):
            steps.append(("step", lot, first))
            for second in beside[number + 1:]:
                pairs.append(("pair", lot, first, second))
    return tuple([("none",)] + steps + pairs)
