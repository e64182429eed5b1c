"""Families that come from frames, from rows of remainders, and from hands."""

import unittest
from itertools import permutations, product

from plain import (A, AB, ABC, ABCDE, NOTHING_KNOWN, WORDS, Echo, Refusals, Strange, counts_of, is_family, nested, parts_of)

from standlots.errors import BadMaker, BadThings
from standlots.families import Family
from standlots.makers import of_frame, of_hands, of_rows

NO_LISTS = [None, True, False, 0, 1, -1, 10 ** 999, "", "ab", b"ab", {}, {"a": (1, 2)}, {("a", 1, 2)}, range(3), len, Strange(),
            Echo(), Family(A, (0, 1))]
NO_INTEGERS = [None, True, False, "", "1", "a", b"1", (), (1,), [], [1], {}, Strange(), Echo(), nested(47)]
NO_WORDS = [None, True, 0, 1, "", "A", "aB", "a1", "1", "a b", "a\n", " a", "\u00e9", "abcdefghi", b"a", (), ("a",), ["a"], {},
            Strange(), Echo()]


def has_ring(ties):
    """Whether a ring goes along some of the ties: each point of it is an end of just two of them, or of more rings."""
    for chosen in parts_of(tuple(range(len(ties)))):
        ends = [point for place in chosen for point in ties[place]]
        if chosen != () and all(ends.count(point) % 2 == 0 for point in ends):
            return True
    return False


def frame_lots(ties):
    points = {word: (one, other) for word, one, other in ties}
    return {lot for lot in parts_of(tuple(sorted(points))) if not has_ring([points[word] for word in lot])}


def independent(rows, prime):
    """Whether no multiples of the rows, but multiples of the prime, come to noughts by remainders."""
    for times in product(range(prime), repeat=len(rows)):
        sums = [sum(time * row[at] for time, row in zip(times, rows)) for at in range(len(rows[0]) if rows else 0)]
        if any(times) and all(total % prime == 0 for total in sums):
            return False
    return True


def row_lots(rows, prime):
    numbers = dict(rows)
    return {lot for lot in parts_of(tuple(sorted(numbers))) if independent([numbers[word] for word in lot], prime)}


def hand_lots(things, hands):
    return {lot for lot in parts_of(things)
            if any(all(thing in hand for thing, hand in zip(lot, chosen)) for chosen in permutations(hands, len(lot)))}


class MakerCase(Refusals):
    def made(self, family, things, lots):
        """The family is on the things, and just these lots can stand."""
        self.assertTrue(is_family(lots))
        self.assertEqual(family.things, things)
        self.assertEqual(family.counts, counts_of(things, lots))
        self.assertIs(type(family), Family)


class FrameTest(MakerCase):
    def frame(self, ties):
        things = tuple(sorted(tie[0] for tie in ties))
        for order in (list(ties), tuple(ties), list(ties)[::-1]):
            self.made(of_frame(order), things, frame_lots(ties))

    def test_one_tie(self):
        self.assertEqual(of_frame([("a", 1, 2)]), Family(A, (0, 1)))
        self.assertEqual(of_frame((("a", 7, 7),)), Family(A, (0, 0)))
        self.assertEqual(of_frame(ties=[("zz", -1, 0)]), Family(("zz",), (0, 1)))

    def test_ordinary(self):
        ring = of_frame([("a", 1, 2), ("b", 2, 3), ("c", 3, 1)])
        self.assertEqual(ring.bases(), (("a", "b"), ("a", "c"), ("b", "c")))
        self.assertEqual(of_frame([("a", 1, 2), ("b", 2, 1)]), Family(AB, (0, 1, 1, 1)))

    def test_all_small_frames(self):
        points = [(one, other) for one in range(3) for other in range(3)]
        for many in (1, 2, 3):
            for ends in product(points, repeat=many):
                self.frame([(word, *end) for word, end in zip(ABC, ends)])

    def test_four_and_five_ties(self):
        for ends in (
            ((1, 2), (2, 3), (3, 4), (4, 1), (1, 3)),
            ((1, 2), (2, 3), (3, 4), (4, 5), (5, 1)),
            ((1, 2), (2, 1), (1, 2), (2, 2), (3, 3)),
            ((1, 2), (3, 4), (1, 2), (4, 3), (2, 3)),
            ((1, 2), (1, 3), (1, 4), (1, 5), (1, 6)),
            ((4, 3), (2, 1), (3, 2), (1, 4), (5, 5)),
            ((1, 2), (3, 4), (2, 3), (4, 1), (2, 4)),
            ((0, 10 ** 999), (10 ** 999, -(10 ** 999)), (-(10 ** 999), 0), (0, 0), (1, -1)),
        ):
            self.frame([(word, *end) for word, end in zip(ABCDE, ends)])
            self.frame([(word, *end) for word, end in zip(WORDS[::-1], ends)][1:])

    def test_words_in_any_order(self):
        ties = [("z", 1, 2), ("b", 2, 3), ("ab", 3, 1), ("abcdefgh", 3, 3), ("ba", 9, 1)]
        family = of_frame(ties)
        for order in permutations(ties):
            self.assertEqual(of_frame(order), family)
        self.assertEqual(family.things, WORDS)
        self.assertEqual(ties[0], ("z", 1, 2))

    def test_no_list_or_tuple_of_one_to_five_items(self):
        for value in NO_LISTS + [[], ()]:
            self.refused(BadMaker, "place", None, of_frame, value)
        six = [(word, 1, 2) for word in "abcdef"]
        self.refused(BadMaker, "place", None, of_frame, six)
        self.refused(BadMaker, "place", None, of_frame, tuple(six))
        self.refused(BadMaker, "place", None, of_frame, [None] * 6)
        self.refused(BadMaker, "place", None, of_frame, ties=None)

    def test_the_first_item_that_is_no_triple(self):
        good = [("b", 1, 2), ("a", 2, 3), ("d", 3, 1), ("c", 1, 1), ("e", 0, 0)]
        bad = NOTHING_KNOWN + [("x",), ("x", 1), ("x", 1, 2, 3), ["x", 1, 2], ("x", (1, 2)), (1, 2, "x"), ("x", 1, "2")]
        bad += [(word, 1, 2) for word in NO_WORDS]
        bad += [("x", value, 2) for value in NO_INTEGERS] + [("x", 2, value) for value in NO_INTEGERS]
        for value in bad:
            for place in range(5):
                ties = good[:place] + [value] + good[place + 1:]
                self.refused(BadMaker, "place", place, of_frame, ties)
            self.refused(BadMaker, "place", 1, of_frame, tuple(good[:1] + [value, value]))

    def test_a_word_that_stood_there(self):
        self.refused(BadMaker, "place", 1, of_frame, [("a", 1, 2), ("a", 1, 2)])
        self.refused(BadMaker, "place", 3, of_frame, [("a", 1, 2), ("b", 1, 2), ("c", 1, 2), ("b", 2, 3), None])
        self.refused(BadMaker, "place", 2, of_frame, (("a", 1, 2), ("b", 1, 2), ("b", 1, True), ("a", 1, 2)))


class RowsTest(MakerCase):
    def rows(self, rows, prime):
        things = tuple(sorted(word for word, _ in rows))
        for order in (list(rows), tuple(rows), list(rows)[::-1]):
            self.made(of_rows(order, prime), things, row_lots(rows, prime))

    def test_ordinary(self):
        rows = [("a", (1, 0)), ("b", (0, 1)), ("c", (1, 1))]
        self.assertEqual(of_rows(rows, 2).bases(), (("a", "b"), ("a", "c"), ("b", "c")))
        self.assertEqual(of_rows([("a", (1, 2)), ("b", (3, 1))], 5), Family(AB, (0, 1, 1, 1)))
        self.assertEqual(of_rows([("a", (1, 2)), ("b", (3, 1))], 7), Family(AB, (0, 1, 2, 1)))
        self.assertEqual(of_rows(rows=(("a", (6,)),), prime=3), Family(A, (0, 0)))

    def test_all_small_rows_with_each_prime(self):
        for prime in (2, 3):
            for rows in product(product(range(prime), repeat=2), repeat=3):
                self.rows(list(zip(ABC, rows)), prime)
        for prime in (5, 7):
            for rows in product(product((0, 1, 3), repeat=2), repeat=2):
                self.rows(list(zip(AB, rows)), prime)

    def test_five_rows(self):
        for prime in (2, 3, 5):
            for rows in (
                ((1, 0, 0), (0, 1, 0), (0, 0, 1), (1, 1, 1), (1, 2, 3)),
                ((1, 2, 3, 4), (2, 4, 6, 8), (0, 0, 0, 0), (5, 6, 7, 8), (6, 8, 10, 12)),
                ((1, 1, 0, 0, 0), (0, 1, 1, 0, 0), (0, 0, 1, 1, 0), (0, 0, 0, 1, 1), (1, 0, 0, 0, 1)),
                ((1,), (0,), (2,), (3,), (5,)),
                ((4, -1), (-4, 1), (0, 6), (2, 2), (-9, -9)),
            ):
                self.rows(list(zip(WORDS[::-1], rows)), prime)
        self.rows(list(zip(ABCDE, ((1, 0, 2), (0, 1, 3), (1, 1, 5), (3, 0, 6), (0, 0, 7)))), 7)

    def test_great_entries_and_those_below_0(self):
        great = 10 ** 999
        for prime in (2, 3, 5, 7):
            self.rows([("a", (great, 1)), ("b", (1, -great)), ("c", (great + 1, 1 - great)), ("d", (-1, -1))], prime)
            self.rows([("a", (-1, prime)), ("b", (prime - 1, -prime)), ("c", (prime ** 9, -(prime ** 20)))], prime)
        self.rows([("a", (-(10 ** 999), 3, 3)), ("b", (7, 10 ** 998, 0))], 7)

    def test_by_remainders_alone_unlike_others(self):
        # As integers these are independent; by remainders of one prime they are not.
        for prime in (2, 3, 5, 7):
            rows = [("a", (1, 1)), ("b", (1, 1 + prime))]
            for other in (2, 3, 5, 7):
                self.assertEqual(of_rows(rows, other)[AB], 1 if other == prime else 2)

    def test_words_in_any_order(self):
        rows = [("z", (1, 2)), ("b", (0, 1)), ("ab", (0, 0)), ("abcdefgh", (2, 5)), ("ba", (3, 3))]
        family = of_rows(rows, 3)
        self.assertEqual(family.things, WORDS)
        for order in permutations(rows):
            self.assertEqual(of_rows(order, 3), family)

    def test_the_prime_ahead_of_all_else(self):
        bad = [None, True, False, 0, 1, -2, -3, 4, 6, 8, 9, 10, 11, 13, 49, 10 ** 999, "2", "prime", b"2", (), (2,), [2], {2: 2},
               {2}, len, Strange(), Echo()]
        for prime in bad:
            for rows in ([("a", (1,))], None, [], [None], [("a", (1,))] * 2, [("a", (1,))] * 6):
                self.refused(BadMaker, "place", "prime", of_rows, rows, prime)
        self.refused(BadMaker, "place", "prime", of_rows, prime=1, rows=[("a", (1,))])

    def test_no_list_or_tuple_of_one_to_five_items(self):
        for value in NO_LISTS + [[], (), [("a", (1,))] * 6, tuple((word, (1,)) for word in "abcdef"), [None] * 6]:
            self.refused(BadMaker, "place", None, of_rows, value, 2)

    def test_the_first_item_that_is_none(self):
        good = [("b", (1, 2)), ("a", (0, 0)), ("d", (-3, 7)), ("c", (1, 1)), ("e", (1, 2))]
        bad = NOTHING_KNOWN + [("x",), ("x", 1, 2), ("x", (1, 2), 2), ["x", (1, 2)], ((1, 2), "x"), ("x", 12)]
        bad += [(word, (1, 2)) for word in NO_WORDS]
        bad += [("x", value) for value in NO_LISTS + [[1, 2], [], ()]]
        bad += [("x", (value, 2)) for value in NO_INTEGERS] + [("x", (2, value)) for value in NO_INTEGERS]
        for value in bad:
            for place in range(5):
                rows = good[:place] + [value] + good[place + 1:]
                self.refused(BadMaker, "place", place, of_rows, rows, 7)
            self.refused(BadMaker, "place", 1, of_rows, tuple(good[:1] + [value, value]), 2)

    def test_rows_of_unlike_lengths(self):
        for place in range(1, 5):
            for row in ((1,), (1, 2, 3), ()):
                rows = [(word, (1, 2)) for word in ABCDE]
                rows[place] = ("x", row)
                self.refused(BadMaker, "place", place, of_rows, rows, 2)
        self.refused(BadMaker, "place", 1, of_rows, [("a", (1, 2, 3)), ("b", (1, 2)), ("c", (1, 2))], 2)
        self.refused(BadMaker, "place", 0, of_rows, [("a", ()), ("b", ())], 2)

    def test_a_word_that_stood_there(self):
        self.refused(BadMaker, "place", 1, of_rows, [("a", (1,)), ("a", (1,))], 2)
        self.refused(BadMaker, "place", 2, of_rows, [("a", (1,)), ("b", (1,)), ("a", (0,)), ("c", (1, 1))], 2)


class HandsTest(MakerCase):
    def hands(self, things, hands):
        for order in (list(hands), tuple(hands), list(hands)[::-1]):
            self.made(of_hands(things, order), things, hand_lots(things, hands))

    def test_no_hands_and_empty_ones(self):
        for things in (A, AB, ABCDE, WORDS):
            for hands in ([], (), [()], ((),) * 9):
                self.assertEqual(of_hands(things, hands), Family(things, [0] * 2 ** len(things)))

    def test_ordinary(self):
        self.assertEqual(of_hands(AB, [AB]), Family(AB, (0, 1, 1, 1)))
        self.assertEqual(of_hands(AB, [AB, AB]), Family(AB, (0, 1, 2, 1)))
        self.assertEqual(of_hands(AB, [A, A]), Family(AB, (0, 1, 1, 0)))
        self.assertEqual(of_hands(things=ABC, hands=((), A, ("b", "c"))), Family(ABC, (0, 1, 2, 2, 2, 1, 1, 1)))

    def test_all_small_hands(self):
        for many in (1, 2, 3):
            for hands in product(parts_of(ABC), repeat=many):
                self.hands(ABC, hands)

    def test_five_things(self):
        for hands in (
            (AB, ("b", "c"), ("c", "d"), ("d", "e"), ("a", "e")),
            (ABC, ABC, ABC), (ABCDE, ABCDE), (A, AB, ABC), (("a", "e"), ("a", "e"), ("a", "e"), ("b",)),
            (("c", "e"), (), ("a", "c"), ("a", "c"), ("e",)),
        ):
            self.hands(ABCDE, hands)

    def test_nine_hands_and_ten(self):
        nine = [A, A, (), ("b", "c"), ("b", "c"), ("b", "c"), ("a", "c"), (), ("d",)]
        self.hands(ABCDE, nine)
        self.hands(("a", "b", "c", "d"), nine)
        self.made(of_hands(ABCDE, [ABCDE] * 9), ABCDE, set(parts_of(ABCDE)))
        for ten in (nine + [()], [()] * 10, [None] * 10):
            self.refused(BadMaker, "place", None, of_hands, ABCDE, ten)
            self.refused(BadMaker, "place", None, of_hands, ABCDE, tuple(ten))

    def test_bad_things_come_first(self):
        for value in NOTHING_KNOWN + [()]:
            for hands in ([], None, [None], [()] * 10):
                self.refused(BadThings, "value", value, of_hands, value, hands)

    def test_no_list_or_tuple(self):
        for value in NO_LISTS:
            self.refused(BadMaker, "place", None, of_hands, AB, value)

    def test_the_first_item_that_is_no_lot(self):
        good = [AB, (), A, ABC, ("c",), AB, AB, AB, AB]
        bad = [value for value in NOTHING_KNOWN if value != ()] + [("d",), ("a", "d"), ["a", "b"]]
        for value in bad:
            for place in range(9):
                self.refused(BadMaker, "place", place, of_hands, ABC, good[:place] + [value] + good[place + 1:])
            self.refused(BadMaker, "place", 2, of_hands, ABC, (A, A, value, value))


class PassedTest(unittest.TestCase):
    def test_what_is_passed_is_not_changed_and_not_kept(self):
        ties = [("b", 1, 2), ("a", 2, 1)]
        rows = [("b", (1, 2)), ("a", (2, 4))]
        hands = [AB, ()]
        made = [of_frame(ties), of_rows(rows, 2), of_hands(AB, hands)]
        self.assertEqual((ties, rows, hands), ([("b", 1, 2), ("a", 2, 1)], [("b", (1, 2)), ("a", (2, 4))], [AB, ()]))
        again = [of_frame(ties), of_rows(rows, 2), of_hands(AB, hands)]
        self.assertEqual(made, again)
        ties.clear(), rows.clear(), hands.clear()
        self.assertEqual(made, again)
        self.assertEqual(made[0].counts, (0, 1, 1, 1))


if __name__ == "__main__":
    unittest.main()
