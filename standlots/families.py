"""Families of lots that can stand, told by the counts of all lots."""

from standlots.errors import BadCounts, BadLot, BadNumber, BadThings
from standlots.kinds import is_whole
from standlots.lots import MOST_THINGS, all_lots, is_lot, joined, need_things, rule_places, rules, without


class Family:
    """A family on things; it never changes."""

    def __init__(self, things, counts):
        need_things(things)
        _need_counts(things, counts)
        self.things = things
        self.counts = tuple(counts)
        self._table = dict(zip(all_lots(things), counts))

    def __getitem__(self, at):
        """The count of a lot."""
        if not is_lot(self.things, at):
            raise BadLot(at)
        return self._table[at]

    def __iter__(self):
        raise TypeError("a Family is not iterated over")

    def __len__(self):
        """The count of all things."""
        return len(list(range(self._table[self.things])))

    def __eq__(self, other):
        return isinstance(other, Family) and self.things == other.things and self.counts == other.counts

    def __or__(self, other):
        """The family of the lots that are made of one of this family and one of the other one."""
        if not isinstance(other, Family):
            return NotImplemented
        if self.things != other.things:
            raise BadThings(other.things)
        ones = _standing(self)
        others = _standing(other)
        lots = all_lots(self.things)
        return family_standing(self.things, {lot: True for lot in lots if _is_made_of(ones, others, lot)})

    def __add__(self, other):
        """The family on the things of both, in which a lot can stand if its parts can."""
        if not isinstance(other, Family):
            return NotImplemented
        both = joined(self.things, other.things)
        if len(both) != len(self.things) + len(other.things) or len(both) > MOST_THINGS:
            raise BadThings(other.things)
        counts = [self[without(lot, other.things)] + other[without(lot, self.things)] for lot in all_lots(both)]
        return Family(both, counts)

    def stands(self, lot):
        """Whether a lot can stand."""
        return self[lot] == len(lot)

    def bases(self):
        """The ascending tuple of the lots that can stand, but with no further thing."""
        return tuple([lot for lot in all_lots(self.things) if self.stands(lot) and self.hull(lot) == self.things])

    def rings(self):
        """The ascending tuple of the lots that cannot stand, though they can whichever thing is left out."""
        return tuple([lot for lot in all_lots(self.things) if not self.stands(lot) and self._parts_stand(lot)])

    def _parts_stand(self, lot):
        return all([self.stands(without(lot, (thing,))) for thing in lot])

    def hull(self, lot):
        """The lot of this lot and of all things that add nothing to its count."""
        count = self[lot]
        return tuple([thing for thing in self.things if self[joined(lot, (thing,))] == count])

    def turned(self):
        """The family in which a lot counts what all other things can spare."""
        lots = all_lots(self.things)
        return Family(self.things, [len(lot) + self[without(self.things, lot)] - len(self) for lot in lots])

    def rest(self, lot):
        """The family on the things that are not in the lot, with the counts as here."""
        beside = self._need_beside(lot)
        return Family(beside, [self[part] for part in all_lots(beside)])

    def behind(self, lot):
        """The family on the things that are not in the lot, with what their lots add to its count."""
        beside = self._need_beside(lot)
        return Family(beside, [self[joined(lot, part)] - self[lot] for part in all_lots(beside)])

    def _need_beside(self, lot):
        if not is_lot(self.things, lot) or lot == self.things:
            raise BadLot(lot)
        return without(self.things, lot)

    def at_most(self, number):
        """The family in which no lot counts more than the number."""
        if not is_whole(number) or number < 0:
            raise BadNumber(number)
        return Family(self.things, [min(count, number) for count in self.counts])


def family_of(things, lots):
    """The family in which the lots of a list or tuple can stand, and no others."""
    need_things(things)
    standing = _need_lots(things, lots)
    _need_parts(things, standing)
    _need_exchange(things, standing)
    return family_standing(things, standing)


def all_families(things):
    """The list of all families on the things, ascending by their counts."""
    need_things(things)
    closing = _rules_by_last_place(things)
    grown = [()]
    # Place by place, so that the rules among the first lots cut off early what cannot go on.
    for place, lot in enumerate(all_lots(things)):
        longer = [counts + (count,) for counts in grown for count in range(len(lot) + 1)]
        grown = [counts for counts in longer if _keeps_all(counts, closing[place])]
    return [Family(things, counts) for counts in grown]


def _need_counts(things, counts):
    """Refuse what is no list or tuple of counts of a family."""
    if not isinstance(counts, (list, tuple)) or len(counts) != len(all_lots(things)):
        raise BadCounts(None)
    if not all([is_whole(count) for count in counts]):
        raise BadCounts(None)
    for number, places in enumerate(rule_places(things)):
        if not _keeps(counts, places):
            raise BadCounts(rules(things)[number])


def _keeps(counts, places):
    """Whether the counts at the places keep the rule that compares them."""
    if len(places) == 1:
        return counts[places[0]] == 0
    if len(places) == 2:
        return 0 <= counts[places[1]] - counts[places[0]] <= 1
    low, one, other, both = places
    return counts[one] + counts[other] >= counts[low] + counts[both]


def _keeps_all(counts, every):
    return all([_keeps(counts, places) for places in every])


def _rules_by_last_place(things):
    """For each place the places of the rules that compare its lot with lots ahead of it alone."""
    every = rule_places(things)
    return [[places for places in every if max(places) == last] for last in range(len(all_lots(things)))]


def _standing(family):
    """A dict with the lots that can stand as its keys."""
    return {lot: True for lot in all_lots(family.things) if family.stands(lot)}


def _is_made_of(ones, others, lot):
    """Whether a part of the lot is among the ones, and all else of it among the others.

    Two lots that overlap need no look: with one that can stand, each part of it can.
    """
    return any([part in ones and without(lot, part) in others for part in all_lots(lot)])


def family_standing(things, standing):
    """The family of the standing lots, which are known to be those of one."""
    return Family(things, [_most_standing(standing, lot) for lot in all_lots(things)])


def _most_standing(standing, lot):
    """The count of a lot: whichever things are taken first, in the end as many are taken."""
    taken = ()
    for thing in lot:
        if taken + (thing,) in standing:
            taken = taken + (thing,)
    return len(taken)


def _need_lots(things, lots):
    """A dict with the lots of a list or tuple as its keys."""
    if not isinstance(lots, (list, tuple)):
        raise BadCounts(None)
    listed = {}
    for number, lot in enumerate(lots):
        if not is_lot(things, lot) or lot in listed:
            raise BadCounts(number)
        listed[lot] = True
    return listed


def _need_parts(things, standing):
    """Refuse lots of which one has a part that is not there."""
    for part in all_lots(things):
        # () is wanted even where no lot is there of which it is a part.
        wanted = part == () or any([without(part, lot) == () for lot in standing])
        if wanted and part not in standing:
            raise BadCounts(("part", part))


def _need_exchange(things, standing):
    """Refuse lots of which one cannot take on a thing of a greater one."""
    there = [lot for lot in all_lots(things) if lot in standing]
    for lot in there:
        for other in there:
            if len(lot) < len(other) and not _takes_on(standing, lot, other):
                raise BadCounts(("exchange", lot, other))


def _takes_on(standing, lot, other):
    """Whether the lot with some thing of the other one is among those that stand."""
    return any([joined(lot, (thing,)) in standing for thing in without(other, lot)])
