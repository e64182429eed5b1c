"""Claims, books and trees that are drawn, the same ones each time."""

from random import Random

from claim_words import deep, many, truth
from plain import parts_of, standing

from standlots.books import Book
from standlots.families import all_families


def draw_atom(rng, things):
    lots = parts_of(things)
    lot = rng.choice(lots)
    other = rng.choice(lots) if rng.random() < 0.5 else ()
    whole = len(lot) - len(other)
    number = rng.choice([whole, whole, whole - 1, 0, 1, 1, -1, len(lot) // 2, rng.randrange(-9, 10)])
    return ("atleast", lot, other, max(-9, min(9, number)))


def draw_claim(rng, things, depth=4):
    """A claim of each sort, at most so deep."""
    if depth == 1 or rng.random() < 0.4:
        return draw_atom(rng, things)
    word = rng.choice(["not", "all", "some", "all", "some"])
    if word == "not":
        return ("not", draw_claim(rng, things, depth - 1))
    return (word, tuple(draw_claim(rng, things, depth - 1) for _ in range(rng.choice([0, 1, 2, 2, 3, 3]))))


def telling_claim(rng, things, families, others):
    """A claim that holds of all these families, but, if one is found soon, not of all others."""
    claim = ("all", ())
    for _ in range(9):
        claim = draw_claim(rng, things)
        if families and not all(truth(family, claim) for family in families):
            claim = ("not", claim)
        if families and not all(truth(family, claim) for family in families):
            claim = ("some", tuple(pinned(family) for family in families))
        if not all(truth(family, claim) for family in others):
            break
    assert deep(claim) <= 6 and many(claim) <= 60
    return claim


def pinned(family):
    """A claim that holds of few families but this one."""
    lots = standing(family)
    atoms = [("atleast", lot, (), len(lot)) for lot in sorted(lots) if len(lot) == len(family)]
    return ("all", tuple(atoms[:2]))


def draw_book(rng, things, facts, hidden):
    """A book with so many facts that hold of all the hidden families."""
    families = all_families(things)
    claims = []
    for _ in range(facts):
        claim = telling_claim(rng, things, hidden, families)
        claims.append(claim)
        families = [family for family in families if truth(family, claim)]
    return Book(things, claims)


def drawn_books(things, many_books, seed, least_hidden=0):
    """Books of 0 to 12 facts, most of which some families keep."""
    rng = Random(seed)
    families = all_families(things)
    books = []
    for at in range(many_books):
        hidden = rng.sample(families, min(len(families), rng.choice([least_hidden, 1, 1, 2, 3, 5])))
        books.append(draw_book(rng, things, rng.choice([0, 1, 2, 3, 3, 4, 5, 6, 8, 12]), hidden))
    return books


def books_of_few(things, many_books, seed):
    """Books that 1 to 16 families keep, often more than a few."""
    rng = Random(seed)
    families = all_families(things)
    books = []
    while len(books) < many_books:
        hidden = rng.sample(families, rng.randrange(1, min(16, len(families)) + 1))
        left = families
        claims = []
        while len(left) > 16 and len(claims) < 12:
            claims.append(telling_claim(rng, things, hidden, left))
            left = [family for family in left if truth(family, claims[-1])]
        if len(left) <= 16:
            books.append(Book(things, claims))
    return books


def drawn_tree(rng, things, cases):
    """A tree with about so many cases."""
    if cases <= 0:
        return ()
    first = rng.randrange(cases)
    lot = rng.choice(parts_of(things))
    number = rng.choice([-1, 0, 0, 0, 1, 1, 2, 3, len(lot), 7, -(10 ** 30), 10 ** 30])
    return (lot, number, drawn_tree(rng, things, first), drawn_tree(rng, things, cases - 1 - first))
