"""Counts of families as plain tuples, in the order of all_lots: which keep the rules, and all of them."""

from standlots.lots import all_lots, without
from standlots.places import MASKS, PAIRS, STEPS


def broken_rule(things, counts):
    """The name of the first rule that the counts do not keep, or None."""
    broken = first_broken(len(things), counts)
    if broken is None or broken == ("none",):
        return broken
    word, low, high = broken
    lots = all_lots(things)
    return (word, lots[low]) + without(lots[high], lots[low])


def first_broken(many, counts):
    """The first rule that the counts do not keep, with the places of its least and its greatest lot, or None."""
    if counts[0] != 0:
        return ("none",)
    steps = [(low, high) for low, high in STEPS[many] if not 0 <= counts[high] - counts[low] <= 1]
    if steps != []:
        return ("step",) + steps[0]
    for low, one, other, both in PAIRS[many]:
        if counts[one] + counts[other] < counts[low] + counts[both]:
            return ("pair", low, both)
    return None


def counts_standing(many, standing):
    """The counts of all lots of so many things, from a dict with the masks of those that can stand as its keys.

    Whichever things are taken first, in the end as many are taken.
    """
    taken = [0]
    sizes = [0]
    for place in range(many):
        bit = 1 << place
        taken = taken + [part | bit if part | bit in standing else part for part in taken]
        sizes = sizes + [size + 1 for size in sizes]
    return [sizes[taken[mask]] for mask in MASKS[many]]


def all_counts(many):
    """The ascending list of the counts of all families on so many things."""
    found = [(0,)]
    for fewer in range(many):
        found = sorted(_with_first(found, fewer))
    return found


def _with_first(smaller, many):
    """The counts with a first thing ahead of so many others, from the counts without it.

    A way tells what the first thing adds to each lot of the others, so that the rules that name the first thing hold.
    The other ones hold of the lots without it, and of those with it unless the way takes 1, which is the most that it
    takes, from a rule that is only just kept without it.
    """
    ways = _ways_to_add(many)
    taking = [as_bits(_are_lessened(way, many)) for way in ways]
    found = []
    for counts in smaller:
        kept = as_bits(_are_just_kept(counts, many))
        good = [way for way, less in zip(ways, taking) if not kept & less]
        found.extend([_put_together(counts, [count + more for count, more in zip(counts, way)]) for way in good])
    return found


def _ways_to_add(many):
    """What a further thing can add to each lot: 0 or 1, and to a greater lot no more than to a lesser one."""
    ways = [(0,), (1,)]
    for _ in range(many):
        ways = [_put_together(way, less) for way in ways for less in ways if _is_nowhere_more(less, way)]
    return ways


def _is_nowhere_more(one, other):
    return all([here <= there for here, there in zip(one, other)])


def _put_together(without_first, with_first):
    """The numbers of all lots, from those of the lots without the first thing and of the same lots with it."""
    return without_first[:1] + tuple(with_first) + without_first[1:]


def _are_just_kept(counts, many):
    """For each step and each pair whether there is nothing to spare."""
    steps = [counts[low] == counts[high] for low, high in STEPS[many]]
    return steps + [counts[one] + counts[other] == counts[low] + counts[both] for low, one, other, both in PAIRS[many]]


def _are_lessened(way, many):
    """For each step and each pair whether the way takes something from it."""
    steps = [way[low] > way[high] for low, high in STEPS[many]]
    return steps + [way[one] + way[other] < way[low] + way[both] for low, one, other, both in PAIRS[many]]


def as_bits(answers):
    """The answers as the bits of an integer."""
    return sum([1 << place for place, answer in enumerate(answers) if answer])
