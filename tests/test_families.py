"""The class Family: how it is made, its fields, operators and methods."""

import unittest
from itertools import product

from plain import (A, AB, ABC, ABCDE, ITERATING, NOTHING_KNOWN, OPERATORS, THINGS, WORDS, Refusals, Strange, broken_rule,
                   counts_of, family_sets, minus, nested, parts_of, some_families, standing, union)

from standlots.errors import BadCounts, BadLot, BadNumber, BadThings
from standlots.families import Family, all_families, family_of

PAIR = Family(AB, (0, 1, 1, 1))
# The ring a, b, c, and d that never can stand.
ROUND = Family(("a", "b", "c", "d"), (0, 1, 2, 2, 2, 2, 2, 2, 1, 1, 2, 2, 1, 1, 1, 0))
NO_NUMBERS = [None, True, False, -1, -(10 ** 999), "", "1", b"1", (), (1,), [], [1], {}, {1: 1}, len, Strange(), PAIR]
NO_INTEGERS = [True, False, None, "", "1", "a", b"1", (), (0,), [], [1], {}, Strange(), PAIR]


class MakingTest(Refusals):
    def test_fields(self):
        for counts in ((0, 1, 1, 1), [0, 1, 1, 1]):
            family = Family(AB, counts)
            self.assertEqual((family.things, family.counts), (AB, (0, 1, 1, 1)))
            self.assertEqual((type(family.things), type(family.counts)), (tuple, tuple))
        self.assertEqual(Family(things=A, counts=[0, 0]).counts, (0, 0))
        self.assertEqual(Family(counts=(0, 1), things=("zz",)).things, ("zz",))

    def test_a_changed_list_has_no_effect(self):
        counts = [0, 1, 1, 1]
        family = Family(AB, counts)
        counts[1] = 0
        counts.append(5)
        self.assertEqual(family.counts, (0, 1, 1, 1))
        self.assertEqual((family[("a",)], len(family)), (1, 1))
        self.assertEqual(family, PAIR)

    def test_a_passed_list_is_not_changed(self):
        counts = [0, 1, 1, 1]
        Family(AB, counts)
        self.assertEqual(counts, [0, 1, 1, 1])

    def test_bad_things(self):
        for value in NOTHING_KNOWN + [()]:
            self.refused(BadThings, "value", value, Family, value, (0, 1))

    def test_bad_things_come_first(self):
        for counts in (None, (), (0,), (1, 1), ("0", "1"), (0, 5)):
            self.refused(BadThings, "value", ("b", "a"), Family, ("b", "a"), counts)

    def test_what_is_no_list_or_tuple_of_as_many_integers(self):
        for counts in (None, True, 0, 4, "", "0111", b"0111", {}, {0: 0, 1: 1, 2: 1, 3: 1}, {0, 1}, range(4), len,
                       PAIR, Strange()):
            self.refused(BadCounts, "place", None, Family, AB, counts)

    def test_too_few_or_too_many(self):
        for things in THINGS:
            many = 2 ** len(things)
            for length in (0, 1, len(things), many - 1, many + 1, 2 * many):
                if length != many:
                    self.refused(BadCounts, "place", None, Family, things, [0] * length)
                    self.refused(BadCounts, "place", None, Family, things, (0,) * length)

    def test_items_that_are_no_integers(self):
        for bad in NO_INTEGERS:
            for place in range(4):
                counts = [0, 1, 1, 1]
                counts[place] = bad
                self.refused(BadCounts, "place", None, Family, AB, counts)
                self.refused(BadCounts, "place", None, Family, AB, tuple(counts))
        self.refused(BadCounts, "place", None, Family, A, (False, True))

    def test_items_are_looked_at_ahead_of_the_rules(self):
        self.refused(BadCounts, "place", None, Family, AB, (7, 1, 1, True))
        self.refused(BadCounts, "place", None, Family, AB, (7, 1, 1))

    def test_each_rule_of_two_things(self):
        for counts, name in (
            ((1, 1, 1, 1), ("none",)),
            ((-1, 0, 0, 0), ("none",)),
            ((5, 9, 9, 0), ("none",)),
            ((0, 2, 2, 1), ("step", (), "a")),
            ((0, -1, 0, 0), ("step", (), "a")),
            ((0, 2, 9, 2), ("step", (), "a")),
            ((0, 1, 1, 2), ("step", (), "b")),
            ((0, 0, 0, -1), ("step", (), "b")),
            ((0, 1, 3, 1), ("step", ("a",), "b")),
            ((0, 1, 0, 1), ("step", ("a",), "b")),
            ((0, 1, 10 ** 999, 1), ("step", ("a",), "b")),
            ((0, 1, 2, 0), ("step", ("b",), "a")),
            ((0, 0, 0, 1), ("step", ("b",), "a")),
            ((0, 0, 1, 0), ("pair", (), "a", "b")),
        ):
            self.refused(BadCounts, "place", name, Family, AB, counts)
            self.refused(BadCounts, "place", name, Family, AB, list(counts))

    def test_every_rule_is_the_first_one_broken_by_some_counts(self):
        for things in (ABC, WORDS):
            told = set()
            for family in some_families(things, 9):
                for place in range(len(family.counts)):
                    for change in (-2, -1, 1, 2):
                        counts = list(family.counts)
                        counts[place] += change
                        name = broken_rule(things, counts)
                        if name is None:
                            self.assertEqual(Family(things, counts).counts, tuple(counts))
                        else:
                            told.add(name)
                            self.refused(BadCounts, "place", name, Family, things, counts)
            kinds = {name[0] for name in told}
            self.assertEqual(kinds, {"none", "step", "pair"})
            self.assertTrue(len(told) > 2 ** len(things))

    def test_just_the_counts_of_families_are_accepted(self):
        for things in (A, AB, ABC):
            good = {counts_of(things, lots) for lots in family_sets(things)}
            ranges = [range(len(lot) + 1) for lot in parts_of(things)]
            if len(things) < 3:
                ranges = [range(-1, 4)] * len(ranges)
            for counts in product(*ranges):
                if counts in good:
                    self.assertEqual(Family(things, counts).counts, counts)
                else:
                    self.refused(BadCounts, "place", broken_rule(things, counts), Family, things, counts)


class CountsTest(Refusals):
    def test_the_count_of_each_lot(self):
        for things in THINGS:
            for family in some_families(things, 11):
                lots = standing(family)
                for lot, count in zip(parts_of(things), counts_of(things, lots)):
                    self.assertEqual(family[lot], count)
                    self.assertIs(type(family[lot]), int)
                    self.assertIs(family.stands(lot), lot in lots)
                self.assertEqual(len(family), family[things])

    def test_len_on_one_to_five_things(self):
        for things in THINGS:
            families = all_families(things)
            self.assertEqual([len(family) for family in families],
                             [max(map(len, standing(family))) for family in families])
            self.assertEqual({len(family) for family in families}, set(range(len(things) + 1)))
            self.assertEqual(len(Family(things, [0] * 2 ** len(things))), 0)

    def test_ordinary_values(self):
        self.assertEqual([PAIR[()], PAIR[("a",)], PAIR[("b",)], PAIR[AB]], [0, 1, 1, 1])
        self.assertEqual([PAIR.stands(lot) for lot in parts_of(AB)], [True, True, False, True])
        self.assertIs(PAIR.stands(lot=()), True)
        self.assertEqual(len(ROUND), 2)
        self.assertEqual(len(Family(A, (0, 0))), 0)
        self.assertEqual(len(Family(ABCDE, [len(lot) for lot in parts_of(ABCDE)])), 5)

    def test_what_is_no_lot(self):
        for value in NOTHING_KNOWN + [("c",), ("a", "c"), ABC, slice(0, 1)]:
            if value in ((), A):
                continue
            self.refused(BadLot, "value", value, PAIR.__getitem__, value)
            self.refused(BadLot, "value", value, lambda: PAIR[value])
            self.refused(BadLot, "value", value, PAIR.stands, value)
            self.refused(BadLot, "value", value, PAIR.hull, value)
            self.refused(BadLot, "value", value, PAIR.rest, value)
            self.refused(BadLot, "value", value, PAIR.behind, value)

    def test_by_the_names_of_the_parameters(self):
        self.assertEqual(PAIR.hull(lot=()), ())
        self.assertEqual(PAIR.rest(lot=A), Family(("b",), (0, 1)))
        self.assertEqual(PAIR.behind(lot=A), Family(("b",), (0, 0)))
        self.assertEqual(PAIR.at_most(number=0), Family(AB, (0, 0, 0, 0)))


class EqualTest(unittest.TestCase):
    def test_equal(self):
        for things in THINGS:
            families = some_families(things, 23)
            for number, one in enumerate(families):
                for place, other in enumerate(families):
                    self.assertIs(one == other, number == place)
                    self.assertIs(one != other, number != place)
                self.assertTrue(one == Family(things, one.counts))
                self.assertFalse(one != Family(things, list(one.counts)))

    def test_like_counts_of_unlike_things(self):
        self.assertFalse(Family(A, (0, 1)) == Family(("b",), (0, 1)))
        self.assertTrue(Family(A, (0, 1)) != Family(("b",), (0, 1)))
        self.assertFalse(Family(("aa",), (0, 1)) == Family(A, (0, 1)))

    def test_all_other_values_are_not_equal(self):
        for value in [None, True, 0, 1, 2, "", "ab", b"", (), AB, (0, 1, 1, 1), [0, 1, 1, 1], (AB, (0, 1, 1, 1)), {},
                      len, Family, Strange(), nested(50)]:
            self.assertIs(PAIR == value, False)
            self.assertIs(value == PAIR, False)
            self.assertIs(PAIR != value, True)
            self.assertIs(value != PAIR, True)


class OperatorsTest(unittest.TestCase):
    OTHERS = [None, True, 0, 1, 2, "", "ab", b"a", (), AB, (0, 1, 1, 1), [], [0, 1], {}, {"a": 1}, set(), len, Family,
              Strange()]

    def test_operators_with_values_that_are_not_described(self):
        for value in self.OTHERS:
            for operator in OPERATORS:
                with self.assertRaises(TypeError):
                    operator(PAIR, value)
                with self.assertRaises(TypeError):
                    operator(value, PAIR)

    def test_operators_between_families_that_are_not_described(self):
        for operator in (lambda a, b: a - b, lambda a, b: a & b, lambda a, b: a < b, lambda a, b: a >= b,
                         lambda a, b: a * b, lambda a, b: a % b, lambda a, b: a ^ b):
            with self.assertRaises(TypeError):
                operator(PAIR, PAIR)

    def test_iterating(self):
        for function in ITERATING:
            with self.assertRaises(TypeError):
                function(PAIR)
        with self.assertRaises(TypeError):
            one, *_ = PAIR
        rows = [1]
        with self.assertRaises(TypeError):
            rows += PAIR
        self.assertEqual(rows, [1])

    def test_in(self):
        for value in ((), A, AB, "a", 0, 1, None, PAIR):
            with self.assertRaises(TypeError):
                value in PAIR
            with self.assertRaises(TypeError):
                value not in PAIR


class TurnedTest(unittest.TestCase):
    def test_counts(self):
        for things in THINGS:
            for family in some_families(things, 7):
                turned = family.turned()
                self.assertEqual(turned.things, things)
                for lot in parts_of(things):
                    self.assertEqual(turned[lot], len(lot) + family[minus(things, lot)] - family[things])
                self.assertEqual(turned.turned(), family)

    def test_bases_are_what_bases_leave(self):
        for family in some_families(ABC, 1):
            left = sorted(minus(ABC, base) for base in family.bases())
            self.assertEqual(list(family.turned().bases()), left)

    def test_ordinary(self):
        self.assertEqual(PAIR.turned(), PAIR)
        self.assertEqual(Family(A, (0, 1)).turned(), Family(A, (0, 0)))
        self.assertEqual(ROUND.turned().counts, (0, 1, 1, 1, 2, 2, 1, 2, 2, 1, 1, 2, 2, 1, 2, 1))


class RestAndBehindTest(Refusals):
    def test_rest(self):
        for things in THINGS:
            for family in some_families(things, 31):
                for lot in parts_of(things):
                    if lot == things:
                        continue
                    rest = family.rest(lot)
                    self.assertEqual(rest.things, minus(things, lot))
                    self.assertEqual(list(rest.counts), [family[part] for part in parts_of(rest.things)])

    def test_behind(self):
        for things in THINGS:
            for family in some_families(things, 31):
                for lot in parts_of(things):
                    if lot == things:
                        continue
                    behind = family.behind(lot)
                    self.assertEqual(behind.things, minus(things, lot))
                    self.assertEqual(list(behind.counts),
                                     [family[union(lot, part)] - family[lot] for part in parts_of(behind.things)])

    def test_ordinary(self):
        self.assertEqual(ROUND.rest(("a", "d")), Family(("b", "c"), (0, 1, 2, 1)))
        self.assertEqual(ROUND.behind(("a", "d")), Family(("b", "c"), (0, 1, 1, 1)))
        self.assertEqual(ROUND.behind(("a", "b")), Family(("c", "d"), (0, 0, 0, 0)))
        self.assertEqual(ROUND.rest(("a", "b", "c")), Family(("d",), (0, 0)))

    def test_of_nothing(self):
        self.assertEqual(ROUND.rest(()), ROUND)
        self.assertEqual(ROUND.behind(()), ROUND)

    def test_the_lot_of_all_things(self):
        for things in THINGS:
            family = all_families(things)[-1]
            self.refused(BadLot, "value", things, family.rest, things)
            self.refused(BadLot, "value", things, family.behind, things)

    def test_rest_and_behind_turn_into_each_other(self):
        for family in some_families(ABCDE, 40):
            self.assertEqual(family.rest(("b", "d")).turned(), family.turned().behind(("b", "d")))


class AtMostTest(Refusals):
    def test_counts(self):
        for things in THINGS:
            for family in some_families(things, 13):
                for number in (0, 1, 2, 3, 5, 6, 10 ** 999):
                    lots = {lot for lot in standing(family) if len(lot) <= number}
                    self.assertEqual(family.at_most(number), Family(things, counts_of(things, lots)))

    def test_what_is_no_number_from_0_on(self):
        for value in NO_NUMBERS:
            self.refused(BadNumber, "value", value, PAIR.at_most, value)
        self.refused(BadNumber, "value", -1, PAIR.at_most, number=-1)


class OrTest(Refusals):
    def made(self, one, other):
        lots = {union(part, rest) for part in standing(one) for rest in standing(other)}
        return Family(one.things, counts_of(one.things, lots))

    def test_made_of_both(self):
        for things, every in ((A, 1), (AB, 1), (ABC, 1), (("a", "b", "c", "d"), 7), (ABCDE, 37)):
            families = all_families(things)[::every]
            for one in families:
                for other in families:
                    self.assertEqual(one | other, self.made(one, other))

    def test_ordinary(self):
        self.assertEqual(PAIR | PAIR, Family(AB, (0, 1, 2, 1)))
        self.assertEqual(ROUND | ROUND.at_most(0), ROUND)
        self.assertEqual((ROUND | ROUND)[("a", "b", "c", "d")], 3)

    def test_unlike_things(self):
        for things in (A, ("b",), ("a", "c"), ABC, ("aa", "b")):
            family = all_families(things)[0]
            self.refused(BadThings, "value", things, lambda: PAIR | family)
            self.refused(BadThings, "value", AB, lambda: family | PAIR)


class AddTest(Refusals):
    def parts_stand(self, one, other):
        lots = {union(part, rest) for part in standing(one) for rest in standing(other)}
        things = union(one.things, other.things)
        return Family(things, counts_of(things, lots))

    def test_parts_can_stand(self):
        for one_things, other_things in ((A, ("b",)), (("b",), A), (("a", "c"), ("b", "d")), (("c", "d", "e"), AB),
                                         (("b",), ("a", "c", "d", "e")), (("ab", "z"), ("b", "ba", "c"))):
            for one in some_families(one_things, 1)[::3]:
                for other in some_families(other_things, 1)[::3]:
                    both = one + other
                    self.assertEqual(both, self.parts_stand(one, other))
                    self.assertEqual(both.things, union(one_things, other_things))
                    self.assertEqual(both, other + one)

    def test_ordinary(self):
        self.assertEqual(Family(("b",), (0, 0)) + Family(A, (0, 1)), Family(AB, (0, 1, 1, 0)))
        self.assertEqual((PAIR + Family(("c", "d", "e"), (0, 0, 0, 0, 0, 0, 0, 0)))[ABCDE], 1)

    def test_things_in_common(self):
        for things in (A, ("b",), AB, ABC, ("b", "c"), ("a", "x", "y", "z")):
            family = all_families(things)[-1]
            self.refused(BadThings, "value", things, lambda: PAIR + family)
            self.refused(BadThings, "value", AB, lambda: family + PAIR)

    def test_more_than_five(self):
        three, four = all_families(("v", "w", "x"))[5], all_families(("u", "v", "w", "x"))[5]
        self.assertEqual(len((PAIR + three).things), 5)
        self.refused(BadThings, "value", ("u", "v", "w", "x"), lambda: PAIR + four)
        self.refused(BadThings, "value", AB, lambda: four + PAIR)
        self.refused(BadThings, "value", ("z",), lambda: all_families(ABCDE)[9] + Family(("z",), (0, 0)))


class UnchangedTest(unittest.TestCase):
    def test_nothing_changes_a_family(self):
        family = Family(ABC, (0, 1, 1, 2, 2, 1, 2, 1))
        family.turned(), family.rest(A), family.behind(A), family.at_most(1), family | family, family + family_of(
            ("d",), [()]), family.bases(), family.rings(), family.hull(A), family.stands(A), family[A], len(family)
        self.assertEqual((family.things, family.counts), (ABC, (0, 1, 1, 2, 2, 1, 2, 1)))

    def test_equal_calls_return_equal_results(self):
        for family in some_families(ABC, 1):
            for call in (lambda: family.turned(), lambda: family.rest(A), lambda: family.behind(A),
                         lambda: family.at_most(1), lambda: family | family, lambda: family.bases(),
                         lambda: family.rings(), lambda: family.hull(A)):
                self.assertEqual(call(), call())

    def test_methods_are_defined_in_the_class_itself(self):
        for name in ("__init__", "__getitem__", "__len__", "__eq__", "__or__", "__add__", "__iter__", "stands", "bases",
                     "rings", "hull", "turned", "rest", "behind", "at_most"):
            self.assertIn(name, vars(Family))
        self.assertEqual({Family.__module__, family_of.__module__, all_families.__module__}, {"standlots.families"})


if __name__ == "__main__":
    unittest.main()
