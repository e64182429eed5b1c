"""Which families keep a book, by the counts of all families and by sets, which are bits of integers."""

from standlots.claims import NEVER
from standlots.counts import all_counts, as_bits
from standlots.errors import Quarrel
from standlots.growing import grown
from standlots.placed import placed_facts


def set_of_all(found):
    """The set of all items of a list."""
    return (1 << len(found)) - 1


def in_set(found, bits):
    """The list of those items that are in a set."""
    return [item for place, item in enumerate(found) if bits >> place & 1]


def met(every, sets):
    """What is in each of the sets; with none of them, every one."""
    for bits in sets:
        every = every & bits
    return every


def bits_holding(found, claim):
    """The set of those counts in a list that a claim, with places, holds of."""
    word = claim[0]
    if word == "atleast":
        lot, other, number = claim[1:]
        return as_bits([counts[lot] >= counts[other] + number for counts in found])
    every = set_of_all(found)
    if word == "not":
        return every ^ bits_holding(found, claim[1])
    parts = [bits_holding(found, part) for part in claim[1]]
    return met(every, parts) if word == "all" else every ^ met(every, [every ^ part for part in parts])


def fact_sets(found, book):
    """For each fact of a book the set of those counts in a list that it holds of."""
    return [bits_holding(found, fact) for fact in placed_facts(book)]


def need_fact_sets(found, book):
    """The same sets, of all counts, if the book is possible."""
    sets = fact_sets(found, book)
    if met(set_of_all(found), sets) == 0:
        raise Quarrel(grown(book, NEVER))
    return sets


def kept_counts(book):
    """The ascending list of the counts of the families left."""
    found = all_counts(len(book.things))
    return in_set(found, met(set_of_all(found), fact_sets(found, book)))


def need_kept(book):
    """The same list, if the book is possible."""
    found = all_counts(len(book.things))
    return in_set(found, met(set_of_all(found), need_fact_sets(found, book)))
