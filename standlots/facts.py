"""Which facts of a book can be left out, and which books are alike."""

from standlots.claims import need_claim
from standlots.counts import all_counts
from standlots.families import Family
from standlots.keeping import bits_holding, in_set, met, need_fact_sets, set_of_all
from standlots.pairs import need_alike
from standlots.placed import placed, places_of


def needless(book):
    """The ascending tuple of the numbers of the facts that are needless, each by itself."""
    found = all_counts(len(book.things))
    sets = need_fact_sets(found, book)
    every = set_of_all(found)
    return tuple([number for number, holding in enumerate(sets)
                  if _is_within(met(every, sets[:number] + sets[number + 1:]), holding)])


def least_facts(book, claim):
    """The ascending tuple of all least lists of facts for a claim."""
    need_claim(book.things, claim)
    found = all_counts(len(book.things))
    sets = need_fact_sets(found, book)
    # At each place the families that keep those facts whose bits are set in the number of the place.
    kept = [set_of_all(found)]
    for holding in sets:
        kept = kept + [families & holding for families in kept]
    wanted = bits_holding(found, placed(places_of(book.things), claim))
    following = [_is_within(families, wanted) for families in kept]
    bits = [1 << number for number in range(len(sets))]
    least = [chosen for chosen, shown in enumerate(following)
             if shown and not any([following[chosen ^ bit] for bit in bits if chosen & bit])]
    return tuple(sorted([tuple([number for number, bit in enumerate(bits) if chosen & bit]) for chosen in least]))


def lean(book):
    """The book from which needless facts were left out, the one with the greatest number first, until none is left."""
    found = all_counts(len(book.things))
    sets = need_fact_sets(found, book)
    every = set_of_all(found)
    # Which facts are not needless stays so when others are left out; so each one is looked at once.
    kept = list(range(len(sets)))
    for number in kept[::-1]:
        others = [other for other in kept if other != number]
        if _is_within(met(every, [sets[other] for other in others]), sets[number]):
            kept = others
    return book.only(tuple(kept))


def alike(one, other):
    """Whether the same families keep both books."""
    return parted(one, other) is None


def parted(one, other):
    """None if the books are alike, or a pair of 0 or 1 and a family that keeps just the first or the second one."""
    need_alike(one, other)
    found = all_counts(len(one.things))
    every = set_of_all(found)
    here, there = [met(every, need_fact_sets(found, book)) for book in (one, other)]
    for number, alone in enumerate((here & ~there, there & ~here)):
        if alone != 0:
            return number, Family(one.things, in_set(found, alone)[0])
    return None


def _is_within(families, others):
    """Whether the first one of two sets of families holds nothing that the second one does not."""
    return families & ~others == 0
