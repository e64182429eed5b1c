"""Things, lots of them, and the rules that bind the counts of lots."""

from standlots.errors import BadThings
from standlots.kinds import is_ascending, is_word

MOST_THINGS = 5


def need_things(thing):
    """The value itself, if it is things."""
    if not isinstance(thing, tuple) or not 1 <= len(thing) <= MOST_THINGS:
        raise BadThings(thing)
    if not all([is_word(word) for word in thing]) or not is_ascending(thing):
        raise BadThings(thing)
    return thing


def is_lot(things, thing):
    """Whether any value is a lot of the things."""
    if not isinstance(thing, tuple):
        return False
    # Only words are compared: values of other kinds have no order beside them.
    if not all([isinstance(word, str) and word in things for word in thing]):
        return False
    return is_ascending(thing)


def all_lots(things):
    """The tuple of all lots in their order."""
    lots = [()]
    for first in things[::-1]:
        # A lot that begins with the first thing stands ahead of all others but ().
        lots = [()] + [(first,) + lot for lot in lots] + lots[1:]
    return tuple(lots)


def joined(one, other):
    """The ascending tuple of what is in one of two lots or in both."""
    return tuple(sorted(set(one + other)))


def without(one, other):
    """The ascending tuple of what is in the first one of two lots alone."""
    return tuple([word for word in one if word not in other])


def rules(things):
    """The tuple of the names of the rules in their order."""
    steps = []
    pairs = []
    for lot in all_lots(things):
        beside = without(things, lot)
        for number, first in enumerate(beside):
            steps.append(("step", lot, first))
            for second in beside[number + 1:]:
                pairs.append(("pair", lot, first, second))
    return tuple([("none",)] + steps + pairs)


def rule_places(things):
    """For each rule, in the order of rules, the places in all_lots of the lots that it compares.

    Of a pair these are the lot, the lot with the one thing, with the other one, and with both.
    """
    bits = tuple([1 << number for number in range(len(things))])
    # Lots as sums of bits are faster to join than tuples, and bits are ordered as the things are.
    masks = [sum(lot) for lot in all_lots(bits)]
    places = {mask: place for place, mask in enumerate(masks)}
    steps = []
    pairs = []
    for mask in masks:
        beside = [bit for bit in bits if not mask & bit]
        for number, first in enumerate(beside):
            steps.append((places[mask], places[mask + first]))
            for second in beside[number + 1:]:
                pairs.append((places[mask], places[mask + first], places[mask + second], places[mask + first + second]))
    return [(0,)] + steps + pairs
