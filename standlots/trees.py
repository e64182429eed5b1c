"""Tables of stretches, trees of cases, and what they show."""

from standlots.claims import NEVER, need_claim
from standlots.kinds import is_whole
from standlots.lots import all_lots, is_lot, need_things
from standlots.placed import placed, placed_facts, places_of
from standlots.stretches import cut_above, cut_below, first_stretches, is_closed, judge, narrow

MOST_ENDS = 20000
MOST_CASES = 99


def first_table(things):
    """A dict from all lots to their pairs in the first table."""
    need_things(things)
    return {lot: (0, len(lot)) for lot in all_lots(things)}


def narrowed(things, table):
    """A dict from all lots to their pairs, narrowed, or None if the table gets empty."""
    need_things(things)
    lots = all_lots(things)
    found = narrow([table[lot][0] for lot in lots], [table[lot][1] for lot in lots])
    if found is None:
        return None
    least, most = found
    return {lot: (least[place], most[place]) for place, lot in enumerate(lots)}


def judged(table, claim):
    """True, False or None (open): what a claim is at a table."""
    least = {lot: table[lot][0] for lot in table}
    most = {lot: table[lot][1] for lot in table}
    return judge(least, most, claim)


def is_quarrel(book, thing):
    """Whether any value is a tree that is a quarrel."""
    return _shows(book, NEVER, thing)


def shows(book, claim, thing):
    """Whether any value is a tree that shows the claim."""
    need_claim(book.things, claim)
    return _shows(book, claim, thing)


def _shows(book, claim, thing):
    if not _is_tree(book.things, thing):
        return False
    places = places_of(book.things)
    return _are_closed(thing, first_stretches(book.things), places, placed_facts(book), placed(places, claim))


def _is_tree(things, thing):
    """Whether any value is a tree; it goes from depth to depth, so that it ends as soon as there is too much."""
    level = [thing]
    ends = 0
    for _ in range(MOST_CASES + 1):
        below = []
        for tree in level:
            if not isinstance(tree, tuple):
                return False
            if len(tree) == 0:
                ends += 1
            elif _is_case(things, tree):
                below.extend(tree[2:])
            else:
                return False
            if ends + len(below) > MOST_ENDS:
                return False
        if len(below) == 0:
            return True
        level = below
    return False


def _is_case(things, value):
    """Whether a tuple is a case, as far as can be told without the trees in it."""
    return len(value) == 4 and is_lot(things, value[0]) and is_whole(value[1])


def _are_closed(tree, table, places, facts, claim):
    """Whether all ends of a tree are closed, with this table at its root."""
    # Within a closed table each narrower one is closed, too, so nothing below needs a look.
    if is_closed(table, facts, claim):
        return True
    if len(tree) == 0:
        return False
    lot, number, first, second = tree
    place = places[lot]
    if not _are_closed(first, cut_above(table, place, number), places, facts, claim):
        return False
    return _are_closed(second, cut_below(table, place, number), places, facts, claim)
