"""Claims on the counts of lots, and whether they hold of a family."""

from standlots.errors import BadClaim, BadLot
from standlots.kinds import is_whole
from standlots.lots import is_lot, joined, need_things

DEEPEST = 6
MOST_CLAIMS = 60
GREATEST_NUMBER = 9
# A claim that holds of no family: what shows it is a quarrel.
NEVER = ("some", ())


def need_claim(things, thing):
    """The value itself, if it is a claim on the things."""
    need_things(things)
    if not is_claim(things, thing):
        raise BadClaim(thing)
    return thing


def holds(family, claim):
    """Whether a claim holds of a family."""
    if not is_claim(family.things, claim):
        raise BadClaim(claim)
    return is_true(family, claim)


def can_stand(things, lot):
    """The atom that holds exactly if the lot can stand."""
    need_things(things)
    if not is_lot(things, lot):
        raise BadLot(lot)
    return ("atleast", lot, (), len(lot))


def adds_nothing(things, lot, thing):
    """The atom that holds exactly if the thing adds nothing to the count of the lot."""
    need_things(things)
    if not is_lot(things, lot):
        raise BadLot(lot)
    if not isinstance(thing, str) or thing not in things:
        raise BadLot(thing)
    return ("atleast", lot, joined(lot, (thing,)), 0)


def is_claim(things, thing):
    """Whether any value is a claim on the things.

    It goes from depth to depth, so that it ends as soon as a claim is too deep or has too many in it.
    """
    level = [thing]
    deep = 1
    many = 1
    while level != []:
        if deep > DEEPEST:
            return False
        below = []
        for claim in level:
            if not _has_form(things, claim):
                return False
            inner = _claims_in(claim)
            many += len(inner)
            if many > MOST_CLAIMS:
                return False
            below.extend(inner)
        level = below
        deep += 1
    return True


def is_true(family, claim):
    """Whether a claim that is known to be one on the things of a family holds of it."""
    word = claim[0]
    if word == "atleast":
        return family[claim[1]] >= family[claim[2]] + claim[3]
    if word == "not":
        return not is_true(family, claim[1])
    answers = [is_true(family, part) for part in claim[1]]
    return all(answers) if word == "all" else any(answers)


def _has_form(things, value):
    """Whether any value is a claim, as far as can be told without the claims in it."""
    if not isinstance(value, tuple) or len(value) < 2 or not isinstance(value[0], str):
        return False
    if value[0] == "atleast":
        return _is_atom(things, value)
    if len(value) != 2:
        return False
    return value[0] == "not" or value[0] in ("all", "some") and isinstance(value[1], tuple)


def _is_atom(things, value):
    if len(value) != 4 or not is_lot(things, value[1]) or not is_lot(things, value[2]):
        return False
    return is_whole(value[3]) and -GREATEST_NUMBER <= value[3] <= GREATEST_NUMBER


def _claims_in(claim):
    """The tuple of the claims that stand directly in a claim."""
    if claim[0] == "atleast":
        return ()
    return (claim[1],) if claim[0] == "not" else claim[1]
