"""Sets of families as integers: a bit for each family, in the order of all_families."""

from standlots.claims import need_claim
from standlots.counts import all_counts
from standlots.errors import BadNumber
from standlots.families import all_families
from standlots.keeping import bits_holding, fact_sets, in_set, met, set_of_all
from standlots.kinds import is_whole
from standlots.placed import placed, places_of


def set_of(things, claim):
    """The set of the families of which a claim holds."""
    need_claim(things, claim)
    return bits_holding(all_counts(len(things)), placed(places_of(things), claim))


def left(book):
    """The set of the families that keep a book."""
    found = all_counts(len(book.things))
    return met(set_of_all(found), fact_sets(found, book))


def families_in(things, number):
    """The list of the families in a set."""
    families = all_families(things)
    if not is_whole(number) or not 0 <= number < 1 << len(families):
        raise BadNumber(number)
    return in_set(families, number)


def follows_by_bits(book, claim):
    """Whether the claim holds of every family that keeps the book, by sets alone."""
    holding = set_of(book.things, claim)
    return left(book) & ~holding == 0
