"""Bases, rings and hulls, worked out by the document's own words."""

import unittest

from plain import A, AB, ABC, ABCDE, THINGS, WORDS, minus, parts_of, some_families, standing, union

from standlots.families import Family, all_families, family_of


def bases_of(things, lots):
    """The lots that can stand, but with no further thing."""
    return tuple(lot for lot in parts_of(things)
                 if lot in lots and not any(union(lot, (thing,)) in lots for thing in minus(things, lot)))


def rings_of(things, lots):
    """The lots that cannot stand, though they can whichever one of their things is left out."""
    return tuple(lot for lot in parts_of(things)
                 if lot not in lots and all(minus(lot, (thing,)) in lots for thing in lot))


def hull_of(things, lots, lot):
    """The lot and all things that add nothing to its count."""
    def count(lot):
        return max(len(part) for part in parts_of(lot) if part in lots)
    return union(lot, tuple(thing for thing in things if count(union(lot, (thing,))) == count(lot)))


class BasesTest(unittest.TestCase):
    def test_by_the_words_of_the_document(self):
        for things in THINGS + (WORDS,):
            for family in some_families(things, 3):
                self.assertEqual(family.bases(), bases_of(things, standing(family)))
                self.assertIs(type(family.bases()), tuple)

    def test_ordinary(self):
        self.assertEqual(Family(AB, (0, 1, 1, 1)).bases(), (("a",), ("b",)))
        self.assertEqual(family_of(ABC, [(), ("c",), ("a",), ("a", "c")]).bases(), (("a", "c"),))

    def test_edges(self):
        self.assertEqual(Family(A, (0, 0)).bases(), ((),))
        self.assertEqual(Family(A, (0, 1)).bases(), (A,))
        self.assertEqual(all_families(ABCDE)[0].bases(), ((),))
        self.assertEqual(Family(ABCDE, [len(lot) for lot in parts_of(ABCDE)]).bases(), (ABCDE,))

    def test_two_families_have_not_the_same_bases(self):
        for things in THINGS:
            families = all_families(things)
            self.assertEqual(len({family.bases() for family in families}), len(families))


class RingsTest(unittest.TestCase):
    def test_by_the_words_of_the_document(self):
        for things in THINGS + (WORDS,):
            for family in some_families(things, 3):
                self.assertEqual(family.rings(), rings_of(things, standing(family)))
                self.assertIs(type(family.rings()), tuple)

    def test_ordinary(self):
        self.assertEqual(Family(AB, (0, 1, 1, 1)).rings(), (AB,))
        self.assertEqual(family_of(ABC, [(), ("c",), ("a",), ("a", "c")]).rings(), (("b",),))

    def test_edges(self):
        self.assertEqual(Family(A, (0, 0)).rings(), (A,))
        self.assertEqual(Family(A, (0, 1)).rings(), ())
        self.assertEqual(all_families(ABC)[0].rings(), (("a",), ("b",), ("c",)))
        self.assertEqual(all_families(ABCDE)[-1].rings(), ())


class HullTest(unittest.TestCase):
    def test_by_the_words_of_the_document(self):
        for things in THINGS + (WORDS,):
            for family in some_families(things, 17):
                lots = standing(family)
                for lot in parts_of(things):
                    self.assertEqual(family.hull(lot), hull_of(things, lots, lot))

    def test_ordinary(self):
        pair = Family(AB, (0, 1, 1, 1))
        self.assertEqual([pair.hull(lot) for lot in parts_of(AB)], [(), AB, AB, AB])

    def test_edges(self):
        self.assertEqual(all_families(ABCDE)[0].hull(()), ABCDE)
        free = all_families(ABCDE)[-1]
        for lot in parts_of(ABCDE):
            self.assertEqual(free.hull(lot), lot)


if __name__ == "__main__":
    unittest.main()
