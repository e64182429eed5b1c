"""Two families with lots in common, the parting of all things, and picking by weights."""

from standlots.errors import BadNumber, BadThings
from standlots.kinds import is_ascending, is_whole
from standlots.lots import all_lots, is_lot, joined, without


def common(one, other):
    """A common paper of two families."""
    need_alike(one, other)
    lots = all_lots(one.things)
    in_both = [lot for lot, here, there in zip(lots, one.counts, other.counts) if here == there == len(lot)]
    bounds = [(_bound(one, other, lot), lot) for lot in lots]
    return max(in_both, key=len), min(bounds)[1]


def check_common(one, other, paper):
    """Whether any value is a common paper of two families."""
    need_alike(one, other)
    if not _is_pair(paper) or not is_lot(one.things, paper[0]) or not is_lot(one.things, paper[1]):
        return False
    lot, bound = paper
    return one.stands(lot) and other.stands(lot) and len(lot) == _bound(one, other, bound)


def parting(family):
    """A parting paper of a family, or None if there is none."""
    ways = _ways_to_part(family)
    if ways == []:
        return None
    fewest = min(ways, key=len)
    tight = [lot for lot in all_lots(family.things) if _is_too_great(family, lot, len(fewest) - 1)]
    return fewest, tight[0]


def check_parting(family, paper):
    """Whether any value is a parting paper of a family."""
    if not _is_pair(paper) or not _parts_things(family, paper[0]) or not is_lot(family.things, paper[1]):
        return False
    return _is_too_great(family, paper[1], len(paper[0]) - 1)


def picked(family, weights):
    """The lot with which picking ends."""
    need_weights(family.things, weights)
    taken = ()
    for _, thing in sorted([(-weight, thing) for thing, weight in zip(family.things, weights) if weight > 0]):
        more = joined(taken, (thing,))
        if family.stands(more):
            taken = more
    return taken


def best_lots(family, weights):
    """The ascending tuple of all best lots."""
    need_weights(family.things, weights)
    lots = zip(all_lots(family.things), family.counts, lot_sums(family.things, weights))
    standing = [(lot, total) for lot, count, total in lots if count == len(lot)]
    most = max([total for _, total in standing])
    return tuple([lot for lot, total in standing if total == most])


def need_weights(things, thing):
    """The value itself, if it is weights of the things."""
    if not isinstance(thing, tuple) or len(thing) != len(things):
        raise BadNumber(thing)
    if not all([is_whole(weight) for weight in thing]):
        raise BadNumber(thing)
    return thing


def lot_sums(things, weights):
    """The list of the sums of the weights of all lots, in their order."""
    worth = dict(zip(things, weights))
    return [sum([worth[thing] for thing in lot]) for lot in all_lots(things)]


def need_alike(one, other):
    """Refuse two families, or two books, on unlike things."""
    if one.things != other.things:
        raise BadThings(other.things)


def _is_pair(value):
    return isinstance(value, tuple) and len(value) == 2


def _bound(one, other, lot):
    """The count of the lot in the one family and of all other things in the other one: no common lot has more."""
    return one[lot] + other[without(one.things, lot)]


def _ways_to_part(family):
    """All ways to part the things into lots that can stand, each an ascending tuple of lots."""
    ways = [()]
    for thing in family.things:
        # A further lot goes to the end: it begins with a thing behind all others, so the lots ascend.
        alone = [lots + ((thing,),) for lots in ways if family.stands((thing,))]
        ways = alone + [longer for lots in ways for longer in _taken_in(family, lots, thing)]
    return ways


def _taken_in(family, lots, thing):
    """The ways in which one of the lots takes in a thing behind its own ones."""
    found = []
    for place, lot in enumerate(lots):
        if family.stands(lot + (thing,)):
            found.append(lots[:place] + (lot + (thing,),) + lots[place + 1:])
    return found


def _is_too_great(family, lot, many):
    """Whether a lot has more things than so many lots that can stand can hold of it."""
    return len(lot) > family[lot] * many


def _parts_things(family, lots):
    """Whether any value is an ascending tuple of lots that can stand, with each thing in just one of them."""
    if not isinstance(lots, tuple) or not all([is_lot(family.things, lot) for lot in lots]):
        return False
    if () in lots or not is_ascending(lots) or not all([family.stands(lot) for lot in lots]):
        return False
    return sorted([thing for lot in lots for thing in lot]) == list(family.things)
