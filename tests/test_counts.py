"""What families are made by: the tables of lots and rules, and the counts that keep the rules."""

import unittest
from itertools import combinations, product
from time import perf_counter

from plain import (A, AB, ABC, ABCD, ABCDE, THINGS, WORDS, broken_rule, counts_of, family_sets, minus, parts_of, sets_of_lots,
                   some_families, standing, union)

from standlots import counts as made
from standlots.errors import BadCounts
from standlots.families import Family, all_families, family_of
from standlots.lots import all_lots, rules
from standlots.places import MASKS, PAIRS, STEPS


def mask_of(things, lot):
    return sum(2 ** place for place, thing in enumerate(things) if thing in lot)


class TablesTest(unittest.TestCase):
    def test_masks(self):
        self.assertEqual(MASKS[0], (0,))
        self.assertEqual(len(MASKS), 6)
        for things in THINGS + (WORDS,):
            self.assertEqual(MASKS[len(things)], tuple(mask_of(things, lot) for lot in parts_of(things)))

    def test_steps_and_pairs_are_the_rules(self):
        self.assertEqual((STEPS[0], PAIRS[0], PAIRS[1]), ((), (), ()))
        self.assertEqual((len(STEPS), len(PAIRS)), (6, 6))
        for things in THINGS + (WORDS,):
            lots = all_lots(things)
            names = [("none",)]
            for low, high in STEPS[len(things)]:
                (thing,) = minus(lots[high], lots[low])
                self.assertEqual(lots[high], union(lots[low], (thing,)))
                names.append(("step", lots[low], thing))
            for low, one, other, both in PAIRS[len(things)]:
                (first,), (second,) = minus(lots[one], lots[low]), minus(lots[other], lots[low])
                self.assertEqual(lots[both], union(lots[low], (first, second)))
                names.append(("pair", lots[low], first, second))
            self.assertEqual(rules(things), tuple(names))


class CountsTest(unittest.TestCase):
    def test_all_counts(self):
        self.assertEqual([len(made.all_counts(many)) for many in range(6)], [1, 2, 5, 16, 68, 406])
        for things in THINGS[:4]:
            expected = sorted(counts_of(things, lots) for lots in family_sets(things))
            self.assertEqual(made.all_counts(len(things)), expected)
        found = made.all_counts(5)
        self.assertEqual(found, sorted(set(found)))
        self.assertEqual({broken_rule(ABCDE, counts) for counts in found}, {None})
        self.assertEqual({type(counts) for counts in found}, {tuple})

    def test_the_first_broken_rule(self):
        for counts in product(range(-1, 3), repeat=4):
            self.assertEqual(made.broken_rule(AB, counts), broken_rule(AB, counts))
        for counts in product(range(2), range(2), range(3), range(4), range(3), range(2), range(3), range(2)):
            self.assertEqual(made.broken_rule(ABC, counts), broken_rule(ABC, counts))

    def test_counts_by_the_lots_that_can_stand(self):
        for things in THINGS + (WORDS,):
            for family in some_families(things, 5):
                masks = {mask_of(things, lot): True for lot in standing(family)}
                self.assertEqual(tuple(made.counts_standing(len(things), masks)), family.counts)


class SetsOfLotsTest(unittest.TestCase):
    def told(self, things, lots):
        """The place that family_of tells, or the family."""
        try:
            return family_of(things, lots)
        except BadCounts as error:
            return error.place

    def exchange(self, lots):
        pairs = sorted((lot, other) for lot in lots for other in lots if len(lot) < len(other))
        for lot, other in pairs:
            if not any(union(lot, (thing,)) in lots for thing in minus(other, lot)):
                return ("exchange", lot, other)
        return None

    def test_all_sets_of_lots_of_up_to_three_things(self):
        for things in (A, AB, ABC):
            parts = parts_of(things)
            for many in range(len(parts) + 1):
                for lots in combinations(parts[::-1], many):
                    missing = [part for part in parts if part not in lots
                               and (part == () or any(set(part) <= set(lot) for lot in lots))]
                    if missing:
                        self.assertEqual(self.told(things, lots), ("part", missing[0]))
                    else:
                        expected = self.exchange(lots) or Family(things, counts_of(things, lots))
                        self.assertEqual(self.told(things, list(lots)), expected)

    def test_all_sets_of_lots_of_four_things_with_their_parts(self):
        families = 0
        for lots in sets_of_lots(ABCD):
            if () in lots:
                expected = self.exchange(lots)
                families += expected is None
                self.assertEqual(self.told(ABCD, sorted(lots)), expected or Family(ABCD, counts_of(ABCD, lots)))
        self.assertEqual(families, 68)


class TimeTest(unittest.TestCase):
    def test_families_on_four_things_within_a_generous_time(self):
        families = all_families(ABCD)
        lots = [sorted(standing(family)) for family in families]
        started = perf_counter()
        for _ in range(5):
            for family, listed in zip(families, lots):
                Family(ABCD, family.counts)
                family_of(ABCD, listed)
        self.assertTrue(perf_counter() - started < 1)


if __name__ == "__main__":
    unittest.main()
