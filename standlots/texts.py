"""Claims, books and families as texts, and back.

What is read is taken to pieces at just the signs that writing puts there, so each text is that of one value.
"""

from standlots.books import MOST_FACTS, Book
from standlots.claims import DEEPEST, is_claim, need_claim
from standlots.counts import counts_standing, first_broken
from standlots.errors import BadCounts, BadText
from standlots.families import Family
from standlots.lots import all_lots, is_things, need_things, place_of
from standlots.places import MASKS


def claim_text(things, claim):
    """The text of a claim."""
    need_claim(things, claim)
    return _written(claim)


def read_claim(things, text):
    """The claim with a text."""
    need_things(things)
    _need_text(text)
    claim = _read_claim(things, _lots_by_text(things), text)
    if claim is None:
        raise BadText(1)
    return claim


def book_text(book):
    """The text of a book: a line with its things, and one for each fact."""
    return "\n".join([" ".join(("things",) + book.things)] + [_written(fact) for fact in book.facts])


def read_book(text):
    """The book with a text."""
    _need_text(text)
    lines = text.split("\n")
    words = tuple(lines[0].split(" "))
    things = words[1:]
    if words[0] != "things" or not is_things(things):
        raise BadText(1)
    lots = _lots_by_text(things)
    facts = []
    for number, line in enumerate(lines[1:], start=2):
        fact = None if len(facts) == MOST_FACTS else _read_claim(things, lots, line)
        if fact is None:
            raise BadText(number)
        facts.append(fact)
    return Book(things, facts)


def family_text(family):
    """The text of a family: a line for each base."""
    return "\n".join([_lot_text(lot) for lot in family.bases()])


def read_family(things, text):
    """The family with a text."""
    need_things(things)
    _need_text(text)
    lots = _lots_by_text(things)
    bases = []
    for number, line in enumerate(text.split("\n"), start=1):
        if line not in lots or bases != [] and lots[line] <= bases[-1]:
            raise BadText(number)
        bases.append(lots[line])
    return _family_with(things, tuple(bases))


def _need_text(value):
    if not isinstance(value, str):
        raise BadText(None)


def _lot_text(lot):
    return "0" if lot == () else ".".join(lot)


def _lots_by_text(things):
    """A dict from the texts of all lots to the lots."""
    return {_lot_text(lot): lot for lot in all_lots(things)}


def _written(claim):
    word = claim[0]
    if word == "atleast":
        return f"{_lot_text(claim[1])} - {_lot_text(claim[2])} >= {claim[3]}"
    if word == "not":
        return f"not[ {_written(claim[1])} ]"
    if claim[1] == ():
        return f"{word}[ ]"
    inside = "; ".join([_written(part) for part in claim[1]])
    return f"{word}[ {inside} ]"


def _read_claim(things, lots, text):
    """The claim with a text, or None; lots is a dict from the texts of all lots to the lots."""
    claim = _taken_in(lots, text, DEEPEST)
    return claim if is_claim(things, claim) else None


def _taken_in(lots, text, deep):
    """What a text of brackets and atoms tells, at most so deep; where it tells nothing, None stands for a claim."""
    if "[" not in text:
        return _atom_in(lots, text)
    word = text[:text.find("[")]
    if text in ("all[ ]", "some[ ]"):
        return (word, ())
    if deep == 1 or not text.startswith(f"{word}[ ") or not text.endswith(" ]"):
        return None
    inside = text[len(word) + 2:-2]
    if word == "not":
        return (word, _taken_in(lots, inside, deep - 1))
    return (word, tuple([_taken_in(lots, part, deep - 1) for part in _parts_in(inside)]))


def _atom_in(lots, text):
    """The atom with a text, or None."""
    words = text.split(" ")
    if len(words) != 5 or words[1] != "-" or words[3] != ">=":
        return None
    if words[0] not in lots or words[2] not in lots or not _is_number(words[4]):
        return None
    return ("atleast", lots[words[0]], lots[words[2]], int(words[4]))


def _is_number(text):
    """Whether a text is that of an integer from -9 to 9."""
    digit = text[1:] if text.startswith("-") else text
    return len(digit) == 1 and digit in "0123456789" and text != "-0"


def _parts_in(inside):
    """The texts of the claims in a bracket, which are parted by a sign; within further brackets it parts nothing."""
    parts = []
    open_brackets = 0
    for piece in inside.split("; "):
        if open_brackets > 0:
            parts[-1].append(piece)
        else:
            parts.append([piece])
        open_brackets += piece.count("[") - piece.count("]")
    return ["; ".join(part) for part in parts]


def _family_with(things, bases):
    """The family with these bases, an ascending tuple of lots."""
    masks = [MASKS[len(things)][place_of(things, lot)] for lot in bases]
    standing = {part: True for part in MASKS[len(things)] if part in [part & mask for mask in masks]}
    counts = counts_standing(len(things), standing)
    if first_broken(len(things), counts) is not None:
        raise BadCounts(("bases",))
    family = Family(things, counts)
    # A lot that is a part of another one is no base.
    if family.bases() != bases:
        raise BadCounts(("bases",))
    return family
