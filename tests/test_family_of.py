"""family_of and all_families."""

import unittest
from time import perf_counter

from plain import (A, AB, ABC, ABCDE, NOTHING_KNOWN, THINGS, WORDS, Strange, counts_of, family_sets, is_family, minus,
                   parts_of, some_families, standing, union)

from standlots.errors import BadCounts, BadThings
from standlots.families import Family, all_families, family_of


def lack(things, lots):
    """What family_of tells of lots that are all different, by the words of the document; None of a family."""
    for part in parts_of(things):
        if part not in lots and (part == () or any(set(part) <= set(lot) for lot in lots)):
            return ("part", part)
    for lot, other in sorted((lot, other) for lot in lots for other in lots if len(lot) < len(other)):
        if not any(union(lot, (thing,)) in lots for thing in minus(other, lot)):
            return ("exchange", lot, other)
    return None


class FamilyOfTest(unittest.TestCase):
    def refused(self, place, *rest, **more):
        with self.assertRaises(BadCounts) as caught:
            family_of(*rest, **more)
        self.assertIs(type(caught.exception), BadCounts)
        self.assertEqual(caught.exception.place, place)
        self.assertIs(type(caught.exception.place), type(place))

    def test_lots_in_any_order_as_list_and_tuple(self):
        for things in THINGS + (WORDS,):
            for family in some_families(things, 19):
                lots = sorted(standing(family))
                for order in (lots, lots[::-1], lots[1::2] + lots[::2], sorted(lots, key=len, reverse=True)):
                    self.assertEqual(family_of(things, order), family)
                    self.assertEqual(family_of(things, tuple(order)), family)

    def test_ordinary(self):
        self.assertEqual(family_of(AB, [("b",), (), ("a",)]), Family(AB, (0, 1, 1, 1)))
        self.assertEqual(family_of(things=A, lots=((),)), Family(A, (0, 0)))
        self.assertEqual(family_of(ABC, [()]).counts, (0,) * 8)

    def test_passed_lots_are_not_changed_and_not_kept(self):
        lots = [("b",), (), ("a",)]
        family = family_of(AB, lots)
        self.assertEqual(lots, [("b",), (), ("a",)])
        lots.append(AB)
        self.assertEqual(family.counts, (0, 1, 1, 1))

    def test_bad_things_come_first(self):
        for value in NOTHING_KNOWN + [()]:
            for lots in ([()], None, [], [1], [A, A]):
                with self.assertRaises(BadThings) as caught:
                    family_of(value, lots)
                self.assertIs(type(caught.exception), BadThings)
                self.assertEqual(caught.exception.value, value)
        for value in NOTHING_KNOWN + [()]:
            with self.assertRaises(BadThings) as caught:
                all_families(value)
            self.assertIs(type(caught.exception), BadThings)
            self.assertEqual(caught.exception.value, value)

    def test_what_is_no_list_or_tuple(self):
        for value in (None, True, 0, 1, "", "a", b"", {}, {(): True}, {()}, frozenset([()]), range(0), len, Strange(),
                      Family(A, (0, 1))):
            self.refused(None, A, value)

    def test_an_item_that_is_no_lot(self):
        for value in NOTHING_KNOWN + [("c",), ("a", "c"), ABC]:
            if value == A:
                continue
            self.refused(0, AB, [value])
            self.refused(1, AB, [(), value])
            self.refused(3, AB, ((), ("a",), ("b",), value, None))
            # What lacks is looked for behind the items.
            self.refused(1, AB, [AB, value])

    def test_an_item_that_has_stood_there_already(self):
        self.refused(1, AB, [(), ()])
        self.refused(3, AB, [(), A, ("b",), A, A])
        self.refused(2, AB, (A, AB, A, None))
        self.refused(1, AB, (A, None, A))

    def test_a_part_that_lacks(self):
        self.refused(("part", ()), AB, [])
        self.refused(("part", ()), AB, ())
        self.refused(("part", ()), ABCDE, [])
        self.refused(("part", ()), AB, [A])
        self.refused(("part", A), AB, [(), AB])
        self.refused(("part", ("b",)), AB, [AB, A, ()])
        self.refused(("part", ("a", "b")), ABC, [(), ("a",), ABC])
        self.refused(("part", ("a", "c")), ABC, [(), ("a",), ("a", "b"), ABC])
        self.refused(("part", ("c",)), ABC, [(), ("b",), ("b", "c")])

    def test_a_pair_without_exchange(self):
        self.refused(("exchange", ("c",), ("a", "b")), ABC, [(), ("a",), ("b",), ("c",), ("a", "b")])
        self.refused(("exchange", ("a",), ("b", "c")), ABC, [("b", "c"), ("c",), ("b",), ("a",), ()])
        self.refused(("exchange", ("a",), ("b", "c")), ABC, [(), ("a",), ("b",), ("c",), ("b", "c")])
        four = ("a", "b", "c", "d")
        self.refused(("exchange", ("a", "b"), ("b", "c", "d")), four, [
            (), ("a",), ("b",), ("c",), ("d",), ("a", "b"), ("a", "c"), ("a", "d"), ("b", "c"), ("b", "d"),
            ("c", "d"), ("b", "c", "d")])

    def test_parts_are_looked_for_ahead_of_exchange(self):
        self.refused(("part", ("d",)), ("a", "b", "c", "d"), [(), ("a",), ("b",), ("c",), ("b", "c"), ("a", "d")])

    def test_all_sets_of_lots_of_three_things(self):
        lots = parts_of(ABC)
        for number in range(2 ** len(lots)):
            some = [lot for place, lot in enumerate(lots) if number >> place & 1]
            place = lack(ABC, some)
            if place is None:
                self.assertTrue(is_family(set(some)))
                self.assertEqual(family_of(ABC, some), Family(ABC, counts_of(ABC, set(some))))
            else:
                self.assertFalse(is_family(set(some)))
                self.refused(place, ABC, some)

    def test_a_lot_more_or_less_on_five_things(self):
        for family in some_families(ABCDE, 29):
            lots = standing(family)
            for lot in parts_of(ABCDE):
                changed = sorted(lots ^ {lot}, reverse=True)
                place = lack(ABCDE, changed)
                if place is None:
                    self.assertEqual(standing(family_of(ABCDE, changed)), set(changed))
                else:
                    self.refused(place, ABCDE, changed)


class AllFamiliesTest(unittest.TestCase):
    def test_how_many(self):
        self.assertEqual([len(all_families(things)) for things in THINGS], [2, 5, 16, 68, 406])
        self.assertEqual(len(all_families(things=WORDS)), 406)
        # An example of the document.
        self.assertEqual(len(all_families(("a", "b", "c"))), 16)

    def test_ascending_by_counts_and_each_once(self):
        for things in THINGS + (WORDS,):
            families = all_families(things)
            counts = [family.counts for family in families]
            self.assertIs(type(families), list)
            self.assertEqual(counts, sorted(set(counts)))
            self.assertEqual({family.things for family in families}, {things})
            self.assertEqual({type(family) for family in families}, {Family})

    def test_one_thing_and_two(self):
        self.assertEqual([family.counts for family in all_families(A)], [(0, 0), (0, 1)])
        self.assertEqual([family.counts for family in all_families(AB)],
                         [(0, 0, 0, 0), (0, 0, 1, 1), (0, 1, 1, 0), (0, 1, 1, 1), (0, 1, 2, 1)])

    def test_all_sets_of_lots_that_are_families(self):
        for things in THINGS[:4]:
            expected = sorted(counts_of(things, lots) for lots in family_sets(things))
            self.assertEqual([family.counts for family in all_families(things)], expected)

    def test_on_five_things_all_are_families(self):
        for family in all_families(ABCDE):
            lots = standing(family)
            self.assertTrue(is_family(lots))
            self.assertEqual(counts_of(ABCDE, lots), family.counts)

    def test_ends_within_a_generous_time(self):
        started = perf_counter()
        for _ in range(10):
            all_families(ABCDE)
        self.assertTrue(perf_counter() - started < 2)

    def test_a_new_list_each_time(self):
        first = all_families(ABC)
        second = all_families(ABC)
        self.assertEqual(first, second)
        self.assertIsNot(first, second)
        first.clear()
        self.assertEqual(len(second), 16)
        self.assertEqual(len(all_families(ABC)), 16)


if __name__ == "__main__":
    unittest.main()
