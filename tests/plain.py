"""What the tests share: values of every kind, and families worked out by the document's own words."""

import unittest
from itertools import combinations

from standlots.families import Family, all_families

A = ("a",)
AB = ("a", "b")
ABC = ("a", "b", "c")
ABCD = ("a", "b", "c", "d")
ABCDE = ("a", "b", "c", "d", "e")
THINGS = (A, AB, ABC, ABCD, ABCDE)
# Words whose order is neither that of their lengths nor that of their first letters alone.
WORDS = ("ab", "abcdefgh", "b", "ba", "z")


class Strange:
    """An object of a class that the package does not know."""


class Echo:
    """An object that is equal to whatever it is compared with, and that is no word all the same."""

    def __eq__(self, other):
        return True

    def __lt__(self, other):
        return True

    def __gt__(self, other):
        return True


def nested(deep):
    """A value that is nested so deep."""
    value = ()
    for _ in range(deep):
        value = (value,)
    return value


# No things, and no lot of any things but where a lot is ().
NOTHING_KNOWN = [
    None, True, False, 0, 1, -1, 10 ** 999, "", "a", "ab", "abc", b"a", b"", [], ["a"], ["a", "b"], {}, {"a": 1},
    {"a"}, frozenset(["a"]), range(1), len, Strange, Strange(), ValueError("a"),
    (1,), (0,), (True,), (None,), (b"a",), (["a"],), ({},), ({"a": 1},), (("a",),), ((),), ("a", ("b",)), ("a", ["b"]),
    ("a", 1), (1, "a"), ("a", None), (None, "b"), ("a", True), (Strange(),), ("a", Strange()),
    ("b", "a"), ("a", "c", "b"), ("a", "a"), ("a", "b", "b"), ("a", "b", "a"),
    ("",), ("", "a"), ("A",), ("a", "B"), ("aB",), ("1",), ("a1",), ("a b",), ("a.b",), (" a",), ("a\n",), ("\n",),
    ("-",), ("`",), ("{",), ("\u00e9",), ("a\u00e9",), ("\u0430",), ("abcdefghi",), ("a", "bcdefghij"), nested(48),
    ("a", nested(47)), [["a"]], Family(("a",), (0, 1)), (Family(("a",), (0, 1)),),
    ("a", "b", "c", "d", "e", "f"), ("a", "b", "c", "d", "e", "f", "g"),
]


# Every operator between two values but == and !=; "%" is asked of the left one alone, since texts have it for themselves.
OPERATORS = (
    lambda a, b: a | b, lambda a, b: a + b, lambda a, b: a - b, lambda a, b: a * b, lambda a, b: a // b, lambda a, b: a / b,
    lambda a, b: a & b, lambda a, b: a ^ b, lambda a, b: a ** b, lambda a, b: a << b, lambda a, b: a >> b, lambda a, b: a @ b,
    lambda a, b: a < b, lambda a, b: a <= b, lambda a, b: a > b, lambda a, b: a >= b,
)
# What iterates over a value.
ITERATING = (iter, list, tuple, sorted, set, sum, max, any, all, enumerate, lambda a: [*a], lambda a: [k for k in a],
             lambda a: list(zip(a, a)))


class Refusals(unittest.TestCase):
    def refused(self, error, field, value, function, *rest, **more):
        """The call raises just this error, whose field has this value."""
        with self.assertRaises(error) as caught:
            function(*rest, **more)
        self.assertIs(type(caught.exception), error)
        self.assertEqual(getattr(caught.exception, field), value)
        self.assertIs(type(getattr(caught.exception, field)), type(value))


def otherwise(value):
    """The value with one part, at any depth, exchanged for one that is not it; values of many kinds."""
    kinds = [None, True, False, 0, 1, 3, -1, 10 ** 999, "", "a", "z", "not", b"a", (), ("a",), ("z",), ("b", "a"), [], ["a"],
             {}, {"a": 1}, len, Strange(), Echo(), ((),), nested(49)]
    found = [kind for kind in kinds if not (type(kind) is type(value) and kind == value)]
    if isinstance(value, tuple):
        found.append(list(value))
        found.append(value + ((),))
        found.append(value[::-1])
        for place, part in enumerate(value):
            found.append(value[:place] + value[place + 1:])
            found.append(value[:place + 1] + value[place:])
            for other in otherwise(part):
                found.append(value[:place] + (other,) + value[place + 1:])
    return found


def parts_of(things):
    """All lots of the things, by their definition."""
    return sorted(lot for many in range(len(things) + 1) for lot in combinations(things, many))


def union(one, other):
    return tuple(sorted(set(one) | set(other)))


def minus(one, other):
    return tuple(sorted(set(one) - set(other)))


def standing(family):
    """The set of the lots that can stand, by the counts."""
    table = dict(zip(parts_of(family.things), family.counts))
    return {lot for lot in table if table[lot] == len(lot)}


def is_family(lots):
    """Whether a set of lots is a family, by promise 11."""
    if () not in lots:
        return False
    if any(part not in lots for lot in lots for part in parts_of(lot)):
        return False
    return all(
        any(union(lot, (thing,)) in lots for thing in minus(other, lot))
        for lot in lots for other in lots if len(lot) < len(other)
    )


def counts_of(things, lots):
    """The counts of all lots, by promise 11."""
    return tuple(max(len(part) for part in parts_of(lot) if part in lots) for lot in parts_of(things))


def sets_of_lots(things):
    """All sets of lots with which those that contain () and all parts begin; other ones are no families."""
    found = [set()]
    for lot in sorted(parts_of(things), key=len):
        smaller = [minus(lot, (thing,)) for thing in lot]
        found = found + [lots | {lot} for lots in found if all(part in lots for part in smaller)]
    return found


def family_sets(things):
    """The sets of lots of all families on the things."""
    return [lots for lots in sets_of_lots(things) if is_family(lots)]


def some_families(things, every):
    """All families on up to four things, of those on five every so many."""
    families = all_families(things)
    return families if len(things) < 5 else families[::every]


def broken_rule(things, counts):
    """The first rule of promise 12 that the numbers break, or None."""
    lots = parts_of(things)
    table = dict(zip(lots, counts))
    if table[()] != 0:
        return ("none",)
    for lot in lots:
        for thing in minus(things, lot):
            if table[union(lot, (thing,))] not in (table[lot], table[lot] + 1):
                return ("step", lot, thing)
    for lot in lots:
        for one, other in combinations(minus(things, lot), 2):
            singly = table[union(lot, (one,))] + table[union(lot, (other,))]
            if singly < table[lot] + table[union(lot, (one, other))]:
                return ("pair", lot, one, other)
    return None
