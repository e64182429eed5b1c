"""Families of lots that can stand, told by the counts of all lots."""

from standlots.counts import all_counts, broken_rule, counts_standing, first_broken
from standlots.errors import BadCounts, BadLot, BadNumber, BadThings
from standlots.kinds import is_whole
from standlots.lots import MOST_THINGS, all_lots, is_lot, joined, need_things, place_of, without
from standlots.places import MASKS

_ONE_THING = ("a",)


class Family:
    """A family on things; it never changes."""

    def __init__(self, things, counts):
        need_things(things)
        _need_counts(things, counts)
        self.things = things
        self.counts = tuple(counts)

    def __getitem__(self, at):
        """The count of a lot."""
        place = place_of(self.things, at)
        if place is None:
            raise BadLot(at)
        return self.counts[place]

    def __iter__(self):
        raise TypeError("a Family is not iterated over")

    def __len__(self):
        """The count of all things."""
        return len(list(range(self[self.things])))

    def __eq__(self, other):
        return isinstance(other, Family) and self.things == other.things and self.counts == other.counts

    def __or__(self, other):
        """The family of the lots that are made of one of this family and one of the other one."""
        if not isinstance(other, Family):
            return NotImplemented
        if self.things != other.things:
            raise BadThings(other.things)
        ones = _standing_masks(self)
        others = _standing_masks(other)
        made = {one | more: True for one in ones for more in others}
        return _known(self.things, counts_standing(len(self.things), made))

    def __add__(self, other):
        """The family on the things of both, in which a lot can stand if its parts can."""
        if not isinstance(other, Family):
            return NotImplemented
        both = joined(self.things, other.things)
        if len(both) != len(self.things) + len(other.things) or len(both) > MOST_THINGS:
            raise BadThings(other.things)
        here = _table(self)
        there = _table(other)
        lots = all_lots(both)
        return _known(both, [here[without(lot, other.things)] + there[without(lot, self.things)] for lot in lots])

    def stands(self, lot):
        """Whether a lot can stand."""
        return self[lot] == len(lot)

    def bases(self):
        """The ascending tuple of the lots that can stand, but with no further thing.

        These are the greatest that can stand: each lesser one takes on a thing of a greater one.
        """
        most = len(self)
        return tuple([lot for lot in _standing(self) if len(lot) == most])

    def rings(self):
        """The ascending tuple of the lots that cannot stand, though they can whichever thing is left out."""
        standing = _standing(self)
        lots = [lot for lot in all_lots(self.things) if lot not in standing]
        return tuple([lot for lot in lots if all([part in standing for part in _parts_less_one(lot)])])

    def hull(self, lot):
        """The lot of this lot and of all things that add nothing to its count."""
        count = self[lot]
        return tuple([thing for thing in self.things if self[joined(lot, (thing,))] == count])

    def turned(self):
        """The family in which a lot counts what all other things can spare."""
        table = _table(self)
        most = table[self.things]
        return _known(self.things, [len(lot) + table[without(self.things, lot)] - most for lot in table])

    def rest(self, lot):
        """The family on the things that are not in the lot, with the counts as here."""
        beside = self._need_beside(lot)
        table = _table(self)
        return _known(beside, [table[part] for part in all_lots(beside)])

    def behind(self, lot):
        """The family on the things that are not in the lot, with what their lots add to its count."""
        beside = self._need_beside(lot)
        table = _table(self)
        return _known(beside, [table[joined(lot, part)] - table[lot] for part in all_lots(beside)])

    def _need_beside(self, lot):
        if not is_lot(self.things, lot) or lot == self.things:
            raise BadLot(lot)
        return without(self.things, lot)

    def at_most(self, number):
        """The family in which no lot counts more than the number."""
        if not is_whole(number) or number < 0:
            raise BadNumber(number)
        return _known(self.things, [min(count, number) for count in self.counts])


def family_of(things, lots):
    """The family in which the lots of a list or tuple can stand, and no others."""
    need_things(things)
    listed = _need_lots(things, lots)
    _need_parts(things, listed)
    counts = counts_standing(len(things), listed)
    # By these counts just the listed lots can stand, so they keep the rules exactly if the exchange never fails.
    if first_broken(len(things), counts) is not None:
        raise BadCounts(_failed_exchange(things, listed))
    return _known(things, counts)


def all_families(things):
    """The list of all families on the things, ascending by their counts."""
    need_things(things)
    return [_known(things, counts) for counts in all_counts(len(things))]


def family_standing(things, lots):
    """The family in which just those lots can stand that are listed, of which it is known that there is one."""
    masks = MASKS[len(things)]
    return _known(things, counts_standing(len(things), {masks[place_of(things, lot)]: True for lot in lots}))


def _known(things, counts):
    """The family with counts that are known to keep the rules: to check them again takes much longer."""
    family = Family(_ONE_THING, (0, 0))
    family.things = things
    family.counts = tuple(counts)
    return family


def _need_counts(things, counts):
    """Refuse what is no list or tuple of counts of a family."""
    if not isinstance(counts, (list, tuple)) or len(counts) != 1 << len(things):
        raise BadCounts(None)
    if [count for count in counts if not isinstance(count, int) or isinstance(count, bool)] != []:
        raise BadCounts(None)
    broken = broken_rule(things, counts)
    if broken is not None:
        raise BadCounts(broken)


def _table(family):
    """A dict from all lots, in their order, to their counts."""
    return dict(zip(all_lots(family.things), family.counts))


def _standing(family):
    """A dict with the lots that can stand, in their order, as its keys."""
    return {lot: True for lot, count in zip(all_lots(family.things), family.counts) if count == len(lot)}


def _standing_masks(family):
    """The masks of the lots that can stand."""
    masks = zip(all_lots(family.things), MASKS[len(family.things)], family.counts)
    return [mask for lot, mask, count in masks if count == len(lot)]


def _parts_less_one(lot):
    """The parts of a lot in which just one thing is left out."""
    return [lot[:place] + lot[place + 1:] for place in range(len(lot))]


def _need_lots(things, lots):
    """A dict with the masks of the lots of a list or tuple as its keys."""
    if not isinstance(lots, (list, tuple)):
        raise BadCounts(None)
    masks = MASKS[len(things)]
    listed = {}
    for number, lot in enumerate(lots):
        place = place_of(things, lot)
        if place is None or masks[place] in listed:
            raise BadCounts(number)
        listed[masks[place]] = True
    return listed


def _need_parts(things, listed):
    """Refuse lots of which one has a part that is not there."""
    for place, mask in enumerate(MASKS[len(things)]):
        # () is wanted even where no lot is there of which it is a part.
        if mask not in listed and (mask == 0 or mask in [mask & other for other in listed]):
            raise BadCounts(("part", all_lots(things)[place]))


def _failed_exchange(things, listed):
    """The place of the first two lots of which the lesser one cannot take on a thing of the greater one."""
    bits = [1 << place for place in range(len(things))]
    lots = zip(all_lots(things), MASKS[len(things)])
    there = [(lot, mask) for lot, mask in lots if mask in listed]
    for lot, mask in there:
        more = sum([bit for bit in bits if not mask & bit and mask | bit in listed])
        stuck = [other for other, beside in there if len(other) > len(lot) and not beside & more]
        if stuck != []:
            return ("exchange", lot, stuck[0])
    return None
