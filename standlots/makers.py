"""Families that come from frames, from rows of remainders, and from hands that hold things."""

from standlots.errors import BadMaker
from standlots.families import family_standing
from standlots.kinds import is_whole, is_word
from standlots.lots import MOST_THINGS, all_lots, is_lot, joined, need_things, without

MOST_HANDS = 9
PRIMES = (2, 3, 5, 7)


def of_frame(ties):
    """The family of ties in which a lot can stand if no ring goes along it."""
    points = _need_ties(ties)
    things = tuple(sorted(points))
    standing = [lot for lot in all_lots(things) if not _has_ring([points[thing] for thing in lot])]
    return family_standing(things, standing)


def of_rows(rows, prime):
    """The family of rows in which a lot can stand if its rows are independent by remainders."""
    if not is_whole(prime) or prime not in PRIMES:
        raise BadMaker("prime")
    numbers = _need_rows(rows)
    things = tuple(sorted(numbers))
    standing = [lot for lot in all_lots(things) if _are_independent([numbers[thing] for thing in lot], prime)]
    return family_standing(things, standing)


def of_hands(things, hands):
    """The family in which a lot can stand if its things can be held at once, each by a hand of its own."""
    need_things(things)
    if not isinstance(hands, (list, tuple)) or len(hands) > MOST_HANDS:
        raise BadMaker(None)
    held = {(): True}
    for number, hand in enumerate(hands):
        if not is_lot(things, hand):
            raise BadMaker(number)
        for lot in list(held):
            for thing in without(hand, lot):
                held[joined(lot, (thing,))] = True
    return family_standing(things, list(held))


def _need_items(items):
    """Refuse what is no list or tuple with an item for each of 1 to 5 things."""
    if not isinstance(items, (list, tuple)) or not 1 <= len(items) <= MOST_THINGS:
        raise BadMaker(None)


def _need_ties(ties):
    """A dict from the word of each tie to the pair of its points."""
    _need_items(ties)
    points = {}
    for number, tie in enumerate(ties):
        if not _is_tie(tie) or tie[0] in points:
            raise BadMaker(number)
        points[tie[0]] = tie[1:]
    return points


def _is_tie(value):
    if not isinstance(value, tuple) or len(value) != 3:
        return False
    return is_word(value[0]) and is_whole(value[1]) and is_whole(value[2])


def _has_ring(ties):
    """Whether some tie joins points that hang together by the ties ahead of it."""
    heads = {point: point for tie in ties for point in tie}
    for one, other in ties:
        old, new = heads[one], heads[other]
        if old == new:
            return True
        heads = {point: new if heads[point] == old else heads[point] for point in heads}
    return False


def _need_rows(rows):
    """A dict from the word of each row to its numbers."""
    _need_items(rows)
    numbers = {}
    for number, item in enumerate(rows):
        if not _is_named_row(item) or item[0] in numbers:
            raise BadMaker(number)
        # The first item is a good one here: it was looked at ahead of the others.
        if len(item[1]) != len(rows[0][1]):
            raise BadMaker(number)
        numbers[item[0]] = item[1]
    return numbers


def _is_named_row(value):
    if not isinstance(value, tuple) or len(value) != 2 or not is_word(value[0]):
        return False
    row = value[1]
    return isinstance(row, tuple) and len(row) > 0 and all([is_whole(number) for number in row])


def _are_independent(rows, prime):
    """Whether no row is a sum of multiples of those ahead of it, by remainders."""
    kept = []
    for row in rows:
        left = [number % prime for number in row]
        for place, base in kept:
            left = _cleared(left, place, base, prime)
        places = [place for place, number in enumerate(left) if number != 0]
        if places == []:
            return False
        kept.append((places[0], left))
    return True


def _cleared(row, place, base, prime):
    """A multiple of the row, less a multiple of the base, such that nought is left at the place.

    The base has no nought there, so the row is not multiplied by one, and no inverse is wanted.
    """
    return [(base[place] * number - row[place] * taken) % prime for number, taken in zip(row, base)]
