"""Tables of stretches: the first one, narrowing, and what claims are at them."""

import unittest
from itertools import combinations, product
from random import Random

from claim_words import some_claims, truth
from drawn import draw_claim
from plain import A, AB, ABC, ABCD, ABCDE, NOTHING_KNOWN, THINGS, WORDS, Refusals, parts_of, some_families
from tree_words import counts_within, first_words, judge_words, narrow_words

from standlots.errors import BadThings
from standlots.families import all_families
from standlots.trees import first_table, judged, narrowed


def cut(rng, things, many):
    """The first table with stretches cut at some lots, none of them empty."""
    table = first_words(things)
    for lot in rng.sample(sorted(table), min(many, len(table))):
        least, most = table[lot]
        low = rng.randrange(least, most + 1)
        table[lot] = (low, rng.randrange(low, most + 1))
    return table


def around(rng, family, wide):
    """Stretches around the counts of a family."""
    lots = parts_of(family.things)
    return {lot: (count - rng.randrange(wide), count + rng.randrange(wide)) for lot, count in zip(lots, family.counts)}


def any_stretches(rng, things):
    return {lot: tuple(sorted((rng.randrange(-9, 10), rng.randrange(-9, 10)))) for lot in parts_of(things)}


def wide_stretches(rng, things):
    return {lot: (rng.randrange(-9, 1), rng.randrange(len(lot), 10)) for lot in parts_of(things)}


def shuffled(rng, table):
    lots = list(table)
    rng.shuffle(lots)
    return {lot: table[lot] for lot in lots}


def drawn_tables(things, many, seed):
    rng = Random(seed)
    families = all_families(things)
    tables = []
    for at in range(many):
        tables.append(cut(rng, things, at % 6))
        tables.append(around(rng, rng.choice(families), 1 + at % 4))
        tables.append(any_stretches(rng, things))
        tables.append(wide_stretches(rng, things))
    return tables


class FirstTableTest(Refusals):
    def test_first_table(self):
        for things in THINGS + (WORDS,):
            table = first_table(things)
            self.assertIs(type(table), dict)
            self.assertEqual(table, {lot: (0, len(lot)) for lot in parts_of(things)})
            self.assertEqual({type(pair) for pair in table.values()}, {tuple})
            self.assertEqual(list(table), parts_of(things))
        self.assertEqual(first_table(things=AB), {(): (0, 0), A: (0, 1), AB: (0, 2), ("b",): (0, 1)})

    def test_it_is_new_each_time(self):
        table = first_table(AB)
        table[A] = (1, 1)
        del table[AB]
        self.assertEqual(first_table(AB), first_words(AB))

    def test_bad_things(self):
        for value in NOTHING_KNOWN + [()]:
            self.refused(BadThings, "value", value, first_table, value)
        self.refused(BadThings, "value", (), first_table, things=())


class NarrowedTest(Refusals):
    def holds(self, things, table):
        before = dict(table)
        found = narrowed(things, table)
        self.assertEqual(table, before)
        self.assertEqual(found, narrow_words(things, before))
        if found is not None:
            self.assertIs(type(found), dict)
            self.assertEqual(list(found), parts_of(things))
            for pair in found.values():
                self.assertEqual((type(pair), type(pair[0]), type(pair[1])), (tuple, int, int))
            self.assertEqual(narrowed(things, found), found)
        return found

    def test_the_first_table(self):
        for things in THINGS + (WORDS,):
            self.assertEqual(self.holds(things, first_words(things)), first_words(things))

    def test_one_stretch_cut(self):
        for things in THINGS[:4]:
            for lot in parts_of(things):
                for least, most in combinations(range(-2, len(lot) + 3), 2):
                    table = first_words(things)
                    table[lot] = (least, most)
                    self.holds(things, table)
                for number in range(-2, len(lot) + 3):
                    table = first_words(things)
                    table[lot] = (number, number)
                    self.holds(things, table)

    def test_all_tables_on_one_thing(self):
        pairs = [(least, most) for least in range(-3, 4) for most in range(least, 4)]
        for one, other in product(pairs, repeat=2):
            self.holds(A, {(): one, A: other})

    def test_drawn_tables(self):
        for things, many in zip(THINGS + (WORDS,), (50, 60, 60, 50, 12, 8)):
            empty = 0
            for table in drawn_tables(things, many, 11):
                empty += self.holds(things, table) is None
            self.assertTrue(0 < empty < 4 * many)

    def test_a_family_stays_within(self):
        rng = Random(5)
        for things in THINGS + (WORDS,):
            for family in some_families(things, 29):
                for wide in (1, 2, 4):
                    table = narrowed(things, around(rng, family, wide))
                    self.assertIsNotNone(table)
                    self.assertTrue(counts_within(table, family))
                    if wide == 1:
                        self.assertEqual(table, {lot: (count, count) for lot, count in zip(parts_of(things), family.counts)})

    def test_what_is_no_family_gets_empty(self):
        for counts in product(range(-1, 3), repeat=4):
            table = {lot: (count, count) for lot, count in zip(parts_of(AB), counts)}
            found = self.holds(AB, table)
            # Of a family, and of one with as much more at each lot: () is bound by no rule here.
            less = tuple(count - counts[0] for count in counts)
            self.assertEqual(found is None, less not in [family.counts for family in all_families(AB)])

    def test_the_lots_in_any_order(self):
        rng = Random(6)
        for things in THINGS[1:]:
            for table in drawn_tables(things, 4, 12):
                expected = narrowed(things, table)
                for _ in range(3):
                    self.assertEqual(narrowed(things, shuffled(rng, table)), expected)

    def test_a_new_dict_each_time(self):
        table = first_words(ABC)
        found = narrowed(ABC, table)
        self.assertIsNot(found, table)
        found[A] = (7, 7)
        table_again = narrowed(things=ABC, table=table)
        self.assertEqual(table_again, first_words(ABC))
        self.assertIsNot(narrowed(ABC, table_again), table_again)
        table[A] = (1, 1)
        self.assertEqual(table_again, first_words(ABC))

    def test_some_numbers(self):
        table = first_words(AB)
        table[AB] = (2, 2)
        self.assertEqual(narrowed(AB, table), {(): (0, 0), A: (1, 1), AB: (2, 2), ("b",): (1, 1)})
        table[A] = (0, 0)
        self.assertIsNone(narrowed(AB, table))
        self.assertEqual(narrowed(A, {(): (-9, 9), A: (3, 9)}), {(): (2, 9), A: (3, 9)})
        self.assertEqual(narrowed(A, {(): (5, 5), A: (-9, 9)}), {(): (5, 5), A: (5, 6)})
        self.assertIsNone(narrowed(A, {(): (-9, -9), A: (9, 9)}))

    def test_slow_narrowing(self):
        # From the least to the greatest number, one after the other.
        for things in (AB, ABCD):
            for start in (-9, 0):
                table = {lot: (start, 9) for lot in parts_of(things)}
                table[()] = (9, 9)
                self.holds(things, table)
                table = {lot: (-9, 9) for lot in parts_of(things)}
                table[things] = (-9, start)
                self.holds(things, table)

    def test_bad_things(self):
        for value in NOTHING_KNOWN + [()]:
            self.refused(BadThings, "value", value, narrowed, value, first_words(AB))
            self.refused(BadThings, "value", value, narrowed, value, {})


class JudgedTest(unittest.TestCase):
    def holds(self, table, claim):
        before = dict(table)
        expected = {"true": True, "false": False, "open": None}[judge_words(table, claim)]
        self.assertIs(judged(table, claim), expected)
        self.assertEqual(table, before)
        return expected

    def test_drawn_claims_at_drawn_tables(self):
        rng = Random(21)
        for things, many in zip(THINGS + (WORDS,), (8, 10, 10, 8, 3, 2)):
            claims = some_claims(things) + [draw_claim(rng, things, 6) for _ in range(30)]
            answers = []
            for table in drawn_tables(things, many, 13):
                for used in (table, narrow_words(things, table)):
                    if used is not None:
                        answers += [self.holds(used, claim) for claim in claims]
            self.assertEqual(set(answers), {True, False, None})

    def test_all_atoms_at_some_tables(self):
        for table in drawn_tables(AB, 5, 14):
            for one in parts_of(AB):
                for other in parts_of(AB):
                    for number in range(-9, 10):
                        self.holds(table, ("atleast", one, other, number))

    def test_one_lot_on_both_sides(self):
        table = {(): (-3, 3), A: (-9, 9)}
        for lot in ((), A):
            for number in range(-9, 10):
                self.assertIs(judged(table, ("atleast", lot, lot, number)), number <= 0)

    def test_edges_of_an_atom(self):
        table = {(): (0, 0), A: (0, 1), AB: (1, 2), ("b",): (1, 1)}
        self.assertIs(judged(table, ("atleast", AB, A, 0)), True)
        self.assertIs(judged(table, ("atleast", AB, A, 1)), None)
        self.assertIs(judged(table, ("atleast", AB, A, 2)), None)
        self.assertIs(judged(table, ("atleast", AB, A, 3)), False)
        self.assertIs(judged(claim=("atleast", ("b",), (), 1), table=table), True)
        self.assertIs(judged(table, ("atleast", ("b",), (), 2)), False)

    def test_none_of_them(self):
        table = first_words(AB)
        self.assertIs(judged(table, ("all", ())), True)
        self.assertIs(judged(table, ("some", ())), False)
        self.assertIs(judged(table, ("not", ("all", ()))), False)
        self.assertIs(judged(table, ("not", ("some", ()))), True)

    def test_three_answers_together(self):
        table = first_words(AB)
        true, false, both = ("all", ()), ("some", ()), ("atleast", A, (), 1)
        for size in range(4):
            for parts in product((true, false, both), repeat=size):
                expected = False if false in parts else None if both in parts else True
                self.assertIs(judged(table, ("all", parts)), expected)
                expected = True if true in parts else None if both in parts else False
                self.assertIs(judged(table, ("some", parts)), expected)
                self.holds(table, ("not", ("all", parts)))
                self.holds(table, ("not", ("some", parts)))

    def test_a_true_claim_may_be_open(self):
        # Each claim by itself is open, and the words look no further.
        open_claim = ("atleast", A, (), 1)
        self.assertIs(judged(first_words(A), ("some", (open_claim, ("not", open_claim)))), None)
        self.assertIs(judged(first_words(A), ("all", (open_claim, ("not", open_claim)))), None)

    def test_of_every_family_within(self):
        rng = Random(22)
        for things in (A, AB, ABC, ABCD):
            claims = some_claims(things) + [draw_claim(rng, things, 5) for _ in range(20)]
            for at in range(12):
                table = narrowed(things, cut(rng, things, 1 + at % 4))
                if table is None:
                    continue
                within = [family for family in some_families(things, 1) if counts_within(table, family)]
                for claim in claims[at % 3::3]:
                    answer = judged(table, claim)
                    if answer is not None:
                        self.assertEqual([truth(family, claim) for family in within], [answer] * len(within))


class TablesOfOtherLotsTest(unittest.TestCase):
    def test_lots_in_any_order(self):
        rng = Random(23)
        for things in (AB, ABC, ABCDE):
            for table in drawn_tables(things, 2, 15):
                for claim in some_claims(things)[::4]:
                    self.assertIs(judged(shuffled(rng, table), claim), judged(table, claim))


if __name__ == "__main__":
    unittest.main()
