"""Lots common to two families, the parting of all things, best lots and picking."""

import unittest
from itertools import permutations, product

from plain import (A, AB, ABC, ABCDE, NOTHING_KNOWN, THINGS, WORDS, Echo, Refusals, Strange, minus, otherwise, parts_of,
                   some_families, standing)

from standlots.errors import BadNumber, BadThings
from standlots.families import Family, all_families
from standlots.makers import of_frame, of_hands
from standlots.pairs import best_lots, check_common, check_parting, common, parting, picked

PAIR = Family(AB, (0, 1, 1, 1))
RING = of_frame([("a", 1, 2), ("b", 2, 3), ("c", 3, 1)])


def same(one, other):
    """Whether two values are the same, their kinds too, at each depth."""
    if type(one) is not type(other):
        return False
    if isinstance(one, tuple):
        return len(one) == len(other) and all(same(*both) for both in zip(one, other))
    return one == other


def among(value, values):
    return any(same(value, other) for other in values)


def common_papers(one, other):
    """All common papers, by the words of promise 14."""
    lots = parts_of(one.things)
    both = [lot for lot in lots if lot in standing(one) and lot in standing(other)]
    tables = dict(zip(lots, one.counts)), dict(zip(lots, other.counts))
    return [(lot, told) for lot in both for told in lots
            if len(lot) == tables[0][told] + tables[1][minus(one.things, told)]]


def partitions(things):
    """All ways to part the things into lots that are not ()."""
    if things == ():
        return [()]
    found = []
    for rest in parts_of(things[1:]):
        found += [((things[0],) + rest,) + others for others in partitions(minus(things[1:], rest))]
    return found


def parting_papers(family):
    """All parting papers, by the words of promise 15."""
    lots = parts_of(family.things)
    table = dict(zip(lots, family.counts))
    ways = [way for way in partitions(family.things) if all(table[lot] == len(lot) for lot in way)]
    return [(tuple(sorted(way)), told) for way in ways for told in lots if len(told) > table[told] * (len(way) - 1)]


class CommonTest(Refusals):
    def pairs_of(self, things):
        families = some_families(things, 23)
        if len(things) == 4:
            families = families[::4]
        return [(one, other) for one in families for other in families]

    def test_papers_hold(self):
        for things in THINGS + (WORDS,):
            for one, other in self.pairs_of(things):
                paper = common(one, other)
                self.assertTrue(among(paper, common_papers(one, other)))
                self.assertIs(check_common(one, other, paper), True)
                self.assertEqual(common(one, other), paper)

    def test_just_the_papers_hold(self):
        for things in (A, AB, ABC):
            for one, other in self.pairs_of(things)[::3]:
                papers = common_papers(one, other)
                for paper in product(parts_of(things), repeat=2):
                    self.assertIs(check_common(one, other, paper), paper in papers)

    def test_papers_in_which_one_thing_is_otherwise(self):
        one = of_hands(ABCDE, [ABC, ABC, ("d", "e")])
        other = of_frame([("a", 1, 2), ("b", 2, 3), ("c", 3, 1), ("d", 1, 1), ("e", 3, 4)])
        for families in ((one, other), (other, one), (RING, Family(ABC, (0, 1, 1, 1, 1, 0, 0, 0))), (PAIR, PAIR)):
            papers = common_papers(*families)
            for paper in papers:
                for value in otherwise(paper):
                    self.assertIs(check_common(*families, value), among(value, papers), repr(value))

    def test_values_of_every_kind(self):
        for value in NOTHING_KNOWN + [Echo(), (Echo(), Echo()), (A, Echo()), (Echo(), A), ((), (), ()), ([], []), [A, A], (), ((),)]:
            self.assertIs(check_common(PAIR, PAIR, value), False, repr(value))

    def test_ordinary(self):
        lot, told = common(RING, of_hands(ABC, [ABC]))
        self.assertEqual(len(lot), 1)
        self.assertIs(check_common(RING, RING, (AB, ABC)), True)
        self.assertIs(check_common(RING, RING, (("a", "c"), ())), True)
        self.assertIs(check_common(RING, RING, (("a", "c"), A)), False)
        self.assertIs(check_common(RING, RING, (ABC, ABC)), False)
        self.assertIs(check_common(RING, RING, (A, ABC)), False)

    def test_by_the_names_of_the_parameters(self):
        paper = common(other=PAIR, one=PAIR)
        self.assertIs(check_common(paper=paper, other=PAIR, one=PAIR), True)

    def test_unlike_things(self):
        for things in (A, ("b",), ABC, ("a", "c"), ("aa", "b")):
            family = all_families(things)[-1]
            self.refused(BadThings, "value", things, common, PAIR, family)
            self.refused(BadThings, "value", AB, common, family, PAIR)
            for paper in (((), ()), None, 7, (A, A)):
                self.refused(BadThings, "value", things, check_common, PAIR, family, paper)
                self.refused(BadThings, "value", AB, check_common, family, PAIR, paper=paper)


class PartingTest(unittest.TestCase):
    def test_papers_hold(self):
        for things in THINGS + (WORDS,):
            for family in some_families(things, 5):
                papers = parting_papers(family)
                paper = parting(family)
                if all(family.stands((thing,)) for thing in things):
                    self.assertTrue(among(paper, papers))
                    self.assertIs(check_parting(family, paper), True)
                else:
                    self.assertEqual(papers, [])
                    self.assertIsNone(paper)
                self.assertEqual(parting(family), paper)

    def test_just_the_papers_hold(self):
        for things in (A, AB, ABC):
            lots = parts_of(things)
            for family in all_families(things):
                papers = parting_papers(family)
                for many in range(4):
                    for parts in product(lots, repeat=many):
                        for told in lots:
                            self.assertIs(check_parting(family, (parts, told)), (parts, told) in papers)

    def test_papers_in_which_one_thing_is_otherwise(self):
        for family in (PAIR, RING, of_hands(("a", "b", "c", "d"), [ABC, ("d",)]), all_families(ABCDE)[-1]):
            papers = parting_papers(family)
            for paper in papers[:9]:
                for value in otherwise(paper):
                    self.assertIs(check_parting(family, value), among(value, papers), repr(value))

    def test_values_of_every_kind(self):
        for value in NOTHING_KNOWN + [Echo(), (Echo(), Echo()), ((A, ("b",)), Echo()), (Echo(), AB), (((),), AB), ((), ())]:
            self.assertIs(check_parting(PAIR, value), False, repr(value))

    def test_ordinary(self):
        self.assertEqual(parting(PAIR), ((A, ("b",)), AB))
        self.assertEqual(parting(Family(A, (0, 1))), ((A,), A))
        self.assertEqual(len(parting(RING)[0]), 2)
        self.assertEqual(parting(family=all_families(ABCDE)[-1])[0], (ABCDE,))
        self.assertIs(check_parting(RING, ((A, ("b", "c")), ABC)), True)
        self.assertIs(check_parting(RING, ((("b", "c"), A), ABC)), False)
        self.assertIs(check_parting(RING, ((A, ("b",), ("c",)), ABC)), False)
        self.assertIs(check_parting(paper=((AB, ("c",)), ABC), family=RING), True)

    def test_a_thing_that_never_stands(self):
        for family in (Family(A, (0, 0)), Family(AB, (0, 1, 1, 0)), all_families(ABCDE)[0]):
            self.assertIsNone(parting(family))
            self.assertIs(check_parting(family, ((family.things,), family.things)), False)
            self.assertIs(check_parting(family, ((), family.things)), False)
            self.assertIs(check_parting(family, None), False)


class WeightsCase(Refusals):
    def worth(self, things, weights, lot):
        return sum(weight for thing, weight in zip(things, weights) if thing in lot)

    def best(self, family, weights):
        """All best lots, by the words of promise 16."""
        lots = sorted(standing(family))
        most = max(self.worth(family.things, weights, lot) for lot in lots)
        return tuple(lot for lot in lots if self.worth(family.things, weights, lot) == most)

    def pick(self, family, weights):
        """Where picking ends, by the words of promise 16."""
        left = [(weight, thing) for thing, weight in zip(family.things, weights) if weight > 0]
        taken = ()
        while left:
            greatest = max(weight for weight, _ in left)
            chosen = min(thing for weight, thing in left if weight == greatest)
            left.remove((greatest, chosen))
            if tuple(sorted(taken + (chosen,))) in standing(family):
                taken = tuple(sorted(taken + (chosen,)))
        return taken


class BestTest(WeightsCase):
    def holds(self, family, weights):
        best = best_lots(family, weights)
        self.assertTrue(same(best, self.best(family, weights)))
        lot = picked(family, weights)
        self.assertTrue(same(lot, self.pick(family, weights)))
        self.assertIn(lot, best)

    def test_small_families(self):
        for things in (A, AB, ABC):
            for family in all_families(things):
                for weights in product((-1, 0, 1, 2), repeat=len(things)):
                    self.holds(family, weights)

    def test_great_families(self):
        great = 10 ** 999
        for things in (("a", "b", "c", "d"), ABCDE, WORDS):
            for family in some_families(things, 9)[::4]:
                for weights in ((1, 2, 3, 4, 5), (5, 4, 3, 2, 1), (1, 1, 1, 1, 1), (0, 0, 0, 0, 0), (-1, -2, -3, -4, -5),
                                (2, -1, 2, 0, 1), (great, great - 1, -great, 1, great), (3, 3, 1, 3, 1), (0, 7, 0, 7, -7)):
                    self.holds(family, weights[:len(things)])

    def test_ordinary(self):
        self.assertEqual(picked(RING, (1, 2, 3)), ("b", "c"))
        self.assertEqual(best_lots(RING, (1, 2, 3)), (("b", "c"),))
        self.assertEqual(picked(family=RING, weights=(1, 1, 1)), AB)
        self.assertEqual(best_lots(family=RING, weights=(1, 1, 1)), (AB, ("a", "c"), ("b", "c")))

    def test_edges(self):
        self.assertEqual(picked(RING, (0, 0, 0)), ())
        self.assertEqual(best_lots(RING, (0, 0, 0)), tuple(sorted(standing(RING))))
        self.assertEqual(picked(RING, (-1, -1, -1)), ())
        self.assertEqual(best_lots(RING, (-1, -1, -1)), ((),))
        self.assertEqual(picked(RING, (0, 4, -1)), ("b",))
        self.assertEqual(best_lots(RING, (0, 4, -1)), (AB, ("b",)))
        self.assertEqual(best_lots(Family(A, (0, 0)), (9,)), ((),))
        self.assertEqual(picked(Family(A, (0, 0)), (9,)), ())

    def test_of_alike_weights_the_things_in_their_order(self):
        pair = of_hands(ABCDE, [ABCDE, ABCDE])
        for weights in permutations((1, 2, 2, 2, 3)):
            self.holds(pair, weights)
        self.assertEqual(picked(pair, (1, 1, 1, 1, 1)), AB)
        self.assertEqual(picked(pair, (1, 2, 2, 2, 1)), ("b", "c"))

    def test_what_is_no_weights(self):
        bad = NOTHING_KNOWN + [[1, 2, 3], (1, 2), (1, 2, 3, 4), (1, 2, True), (False, 0, 0), (1, None, 3), ("1", 2, 3), (1, 2, "c"),
                               ((1,), 2, 3), (1, [2], 3), {"a": 1, "b": 2, "c": 3}, {0: 1, 1: 2, 2: 3}, range(3), "123",
                               (1, 2, Strange()), (1, Echo(), 3), RING, b"123", (1, 2, b"3"), {1, 2, 3}, ("a", "b", "c")]
        for value in bad + [()]:
            self.refused(BadNumber, "value", value, picked, RING, value)
            self.refused(BadNumber, "value", value, best_lots, RING, weights=value)


class UnchangedTest(unittest.TestCase):
    def test_families_stay_as_they_were(self):
        family = of_frame([("a", 1, 2), ("b", 2, 3), ("c", 3, 1)])
        common(family, family), parting(family), picked(family, (1, 2, 3)), best_lots(family, (1, 2, 3))
        self.assertEqual((family.things, family.counts), (ABC, (0, 1, 2, 2, 2, 1, 2, 1)))


if __name__ == "__main__":
    unittest.main()
