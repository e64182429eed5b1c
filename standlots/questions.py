"""Questions of the kind "can this lot stand?": which one to ask next, and the fewest that settle a claim."""

from standlots.claims import need_claim
from standlots.counts import as_bits
from standlots.errors import TooMany
from standlots.keeping import bits_holding, need_kept
from standlots.lots import all_lots, is_lot
from standlots.placed import placed, places_of

MOST_LEFT = 16


def next_question(book):
    """The first lot whose answers part the families left most evenly, or None if just one family is left."""
    kept = need_kept(book)
    lots = all_lots(book.things)
    parts = []
    for place, lot in enumerate(lots):
        standing = [counts[place] for counts in kept].count(len(lot))
        if 0 < standing < len(kept):
            parts.append((max(standing, len(kept) - standing), place))
    return None if parts == [] else lots[min(parts)[1]]


def fewest(book, claim):
    """The fewest questions that settle the claim."""
    asking = _asking(book, claim)
    return asking.best(asking.every)[0]


def plan(book, claim):
    """Which lots to ask for, by the answers, such that at worst the fewest questions settle the claim."""
    asking = _asking(book, claim)
    return asking.planned(asking.every)


def is_plan(book, claim, thing):
    """Whether any value is a plan with no more questions at worst than the fewest."""
    asking = _asking(book, claim)
    return asking.is_planned(asking.every, thing, asking.best(asking.every)[0])


def _asking(book, claim):
    """The questions about a claim, unless more families are left than can be gone through."""
    need_claim(book.things, claim)
    kept = need_kept(book)
    if len(kept) > MOST_LEFT:
        raise TooMany(MOST_LEFT)
    return Asking(book.things, kept, bits_holding(kept, placed(places_of(book.things), claim)))


class Asking:
    """Some families, those of which a claim holds, and the lots to ask for; sets of families are bits of integers."""

    def __init__(self, things, kept, holding):
        self.things = things
        self.every = (1 << len(kept)) - 1
        self.holding = holding
        # For each lot the families in which it can stand.
        self.standing = {lot: as_bits([counts[place] == len(lot) for counts in kept])
                         for lot, place in places_of(things).items()}
        # For sets of families that were asked about: the fewest questions, and the lot to begin with.
        self.known = {}

    def is_settled(self, left):
        """Whether the claim holds of all these families, or of none."""
        return left & self.holding in (0, left)

    def best(self, left):
        """The fewest questions for these families, and the lot to begin with, or None if the claim is settled."""
        if self.is_settled(left):
            return 0, None
        if left not in self.known:
            self.known[left] = self._best_of_all_lots(left)
        return self.known[left]

    def _best_of_all_lots(self, left):
        # () can stand in all families, so fewer questions than there are lots are enough.
        least, first = len(self.standing), None
        for lot, standing in self.standing.items():
            if left & standing in (0, left):
                continue
            most = self.best(left & standing)[0]
            if most + 1 < least:
                most = max(most, self.best(left & ~standing)[0])
            if most + 1 < least:
                least, first = most + 1, lot
        return least, first

    def planned(self, left):
        """A plan for these families."""
        lot = self.best(left)[1]
        if lot is None:
            return ()
        standing = self.standing[lot]
        return (lot, self.planned(left & standing), self.planned(left & ~standing))

    def is_planned(self, left, thing, most):
        """Whether any value is a plan for these families with at most so many questions at worst."""
        if not isinstance(thing, tuple):
            return False
        if self.is_settled(left):
            return len(thing) == 0
        if len(thing) != 3 or most == 0 or not is_lot(self.things, thing[0]):
            return False
        standing = self.standing[thing[0]]
        if left & standing in (0, left) or not self.is_planned(left & standing, thing[1], most - 1):
            return False
        return self.is_planned(left & ~standing, thing[2], most - 1)
