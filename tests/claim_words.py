"""Claims by the words of promise 17, and some claims to ask about."""

from functools import lru_cache

from plain import parts_of, standing, union

from standlots.families import Family


def deep(claim):
    """How deep a claim is."""
    if claim[0] == "atleast":
        return 1
    parts = (claim[1],) if claim[0] == "not" else claim[1]
    return 1 + max([deep(part) for part in parts], default=0)


def many(claim):
    """How many claims there are in one, itself and all within it counted."""
    if claim[0] == "atleast":
        return 1
    return 1 + sum(many(part) for part in ((claim[1],) if claim[0] == "not" else claim[1]))


def has_form(things, value):
    """Whether any value is a claim on the things, but for how deep and how many it is."""
    if type(value) is not tuple or not value or type(value[0]) is not str:
        return False
    lots = parts_of(things)
    if value[0] == "atleast" and len(value) == 4:
        good = all(type(lot) is tuple and all(type(word) is str for word in lot) and lot in lots for lot in value[1:3])
        return good and type(value[3]) is int and -9 <= value[3] <= 9
    if value[0] == "not" and len(value) == 2:
        return has_form(things, value[1])
    if value[0] in ("all", "some") and len(value) == 2:
        return type(value[1]) is tuple and all(has_form(things, part) for part in value[1])
    return False


def is_claim(things, value):
    return has_form(things, value) and deep(value) <= 6 and many(value) <= 60


@lru_cache(maxsize=None)
def table_of(things, counts):
    """The counts of all lots, by the words of promise 11, from the lots that can stand."""
    lots = standing(Family(things, counts))
    return {lot: max(len(part) for part in parts_of(lot) if part in lots) for lot in parts_of(things)}


def truth(family, claim):
    """Whether a claim holds of a family, by the words of promises 11 and 17."""
    if claim[0] == "atleast":
        table = table_of(family.things, family.counts)
        return table[claim[1]] >= table[claim[2]] + claim[3]
    if claim[0] == "not":
        return not truth(family, claim[1])
    holding = [part for part in claim[1] if truth(family, part)]
    return len(holding) == len(claim[1]) if claim[0] == "all" else len(holding) > 0


def some_claims(things):
    """Claims of each kind on the things."""
    lots = parts_of(things)
    atoms = [("atleast", lots[(7 * at) % len(lots)], lots[(3 * at + 1) % len(lots)], at % 4 - 1) for at in range(9)]
    whole = [("atleast", things, (), number) for number in range(-9, 10)]
    singles = [("atleast", (thing,), (), 1) for thing in things]
    mixed = [
        ("all", ()), ("some", ()), ("not", ("all", ())), ("not", ("some", ())), ("all", (("some", ()),)),
        ("some", (("all", ()), ("some", ()))), ("all", tuple(singles)), ("some", tuple(singles)),
        ("not", ("some", tuple(atoms[:3]))), ("all", (atoms[4], ("not", atoms[5]), ("some", (atoms[6], atoms[7])))),
        ("some", (("all", tuple(atoms[:2])), ("not", ("all", tuple(atoms[2:5]))))),
        ("not", ("not", ("not", ("not", ("not", atoms[0]))))),
        ("some", tuple([("not", single) for single in singles]) + (("atleast", (), (), 0),)),
        ("all", (("atleast", (), things, -2), ("atleast", union(things[:1], things[-1:]), (), 1))),
    ]
    return atoms + whole + singles + mixed


def chain(claim, links):
    """The claim within so many others."""
    for at in range(links):
        claim = (("not", claim), ("all", (claim,)), ("some", (claim,)))[at % 3]
    return claim


def opposite(claim):
    """A claim that holds of just the families that the given one does not hold of; no deeper than 6."""
    return claim[1] if claim[0] == "not" else ("not", claim)


def doubled(claim, times):
    """A claim in which the given one stands 2 ** times times, though few values are told."""
    for _ in range(times):
        claim = ("some", (claim, claim))
    return claim
