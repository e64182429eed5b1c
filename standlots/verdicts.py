"""Whether a book is possible, what follows from it, and papers on both."""

from standlots.claims import NEVER, is_true, need_claim
from standlots.errors import BadPaper
from standlots.families import Family
from standlots.growing import grown
from standlots.keeping import bits_holding, kept_counts, need_kept
from standlots.placed import placed, places_of
from standlots.trees import shows


def possible(book):
    """The word and a family that keeps the book, or the word and a tree that is a quarrel."""
    found = kept_counts(book)
    if found == []:
        return "quarrel", grown(book, NEVER)
    return "family", Family(book.things, found[0])


def verdict(book, claim):
    """A paper on the claim."""
    breaking = _breaking(book, claim)
    if breaking is None:
        return "tree", grown(book, claim)
    return "family", Family(book.things, breaking)


def follows(book, claim):
    """Whether a claim follows from the book."""
    return _breaking(book, claim) is None


def check(book, claim, paper):
    """The first word of a paper that holds."""
    need_claim(book.things, claim)
    need_kept(book)
    if not isinstance(paper, tuple) or len(paper) != 2:
        raise BadPaper("form")
    word, told = paper
    if not isinstance(word, str) or word not in ("tree", "family"):
        raise BadPaper("form")
    holding = shows(book, claim, told) if word == "tree" else book.keeps(told) and not is_true(told, claim)
    if not holding:
        raise BadPaper(word)
    return word


def _breaking(book, claim):
    """The first counts of a family left of which the claim does not hold, or None."""
    need_claim(book.things, claim)
    found = need_kept(book)
    holding = bits_holding(found, placed(places_of(book.things), claim))
    broken = [counts for place, counts in enumerate(found) if not holding >> place & 1]
    return None if broken == [] else broken[0]
