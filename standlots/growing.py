"""Trees that show what follows from a book.

A claim that is open at a table has an atom that is open there, and a case at its lots can tell it on one side. So each
case cuts stretches; where all of them are single numbers, these are the counts of a family, and the end is closed.
"""

from standlots.lots import all_lots
from standlots.placed import placed, placed_facts, places_of
from standlots.stretches import cut_above, cut_below, first_stretches, is_closed, judge

# So many cases are tried at a place of a tree before the best one is taken: more make trees a little smaller.
_MOST_TRIED = 16


def grown(book, claim):
    """A tree that shows a claim, of which it is known that there is one."""
    things = book.things
    claim = placed(places_of(things), claim)
    return _grown(first_stretches(things), placed_facts(book), claim, all_lots(things))


def _grown(table, facts, claim, lots):
    if is_closed(table, facts, claim):
        return ()
    least, most = table
    # What is true at a table is so at all tables within it.
    facts = [fact for fact in facts if judge(least, most, fact) is None]
    found = None
    for place, number in _cases(table, facts + [claim]):
        sides = (cut_above(table, place, number), cut_below(table, place, number))
        left = sum([_left_open(side, facts, claim) for side in sides])
        if found is None or left < found[0]:
            found = (left, place, number, sides)
    _, place, number, (first, second) = found
    return (lots[place], number, _grown(first, facts, claim, lots), _grown(second, facts, claim, lots))


def _left_open(table, facts, claim):
    """How great a tree may get below a table, as far as can be told by how wide its stretches are."""
    if is_closed(table, facts, claim):
        return 0
    least, most = table
    return 1 << (sum(most) - sum(least))


def _cases(table, claims):
    """Some pairs of a place and a number that cut a stretch, without the same one twice."""
    least, most = table
    found = {}
    for claim in claims:
        for atom in _open_atoms(least, most, claim):
            for case in _cases_telling(least, most, atom):
                found[case] = True
        if len(found) >= _MOST_TRIED:
            return list(found)[:_MOST_TRIED]
    if found == {}:
        # The claim is false and the facts are true here, so there is no family: any case leads to empty tables.
        return [(place, low) for place, low in enumerate(least) if low < most[place]][:_MOST_TRIED]
    return list(found)


def _open_atoms(least, most, claim):
    """The list of the atoms by which a claim is open, perhaps none."""
    if judge(least, most, claim) is not None:
        return []
    if claim[0] == "atleast":
        return [claim]
    parts = (claim[1],) if claim[0] == "not" else claim[1]
    return [atom for part in parts for atom in _open_atoms(least, most, part)]


def _cases_telling(least, most, atom):
    """The cases, at least one, on one side of which an open atom is true or false."""
    lot, other, number = atom[1:]
    cases = [(lot, most[other] + number - 1), (lot, least[other] + number - 1)]
    cases = cases + [(other, least[lot] - number), (other, most[lot] - number)]
    return [(place, at) for place, at in cases if least[place] <= at < most[place]]
