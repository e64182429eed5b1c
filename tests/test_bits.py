"""Sets of families as integers."""

import unittest
from random import Random
from time import perf_counter

from claim_words import chain, opposite, some_claims, truth
from drawn import draw_claim, drawn_books, telling_claim
from plain import A, AB, ABC, ABCD, ABCDE, NOTHING_KNOWN, THINGS, WORDS, Echo, Refusals, Strange

from standlots.bits import families_in, follows_by_bits, left, set_of
from standlots.books import Book
from standlots.claims import can_stand
from standlots.errors import BadClaim, BadNumber, BadThings
from standlots.families import Family, all_families
from standlots.verdicts import follows

TRUE = ("all", ())
FALSE = ("some", ())
MANY = {1: 2, 2: 5, 3: 16, 4: 68, 5: 406}
QUARREL = Book(AB, [can_stand(AB, AB), ("not", can_stand(AB, A))])
NO_CLAIMS = NOTHING_KNOWN + [
    (), Echo(), ("atleast", A, (), 10), ("atleast", A, (), True), ("atleast", ("c",), (), 0), ("all", [TRUE]),
    ("not", TRUE, TRUE), ("all", (TRUE,) * 60), chain(TRUE, 6), ("none", ()),
]


def set_words(families, claims):
    """The set of the families of which all the claims hold."""
    return sum(2 ** number for number, family in enumerate(families) if all(truth(family, claim) for claim in claims))


class SetOfTest(Refusals):
    def test_claims_of_each_kind(self):
        for things in THINGS + (WORDS,):
            families = all_families(things)
            for claim in some_claims(things) if len(things) < 5 else some_claims(things)[::4]:
                self.assertEqual(set_of(things, claim), set_words(families, [claim]))
                self.assertIs(type(set_of(things, claim)), int)

    def test_drawn_claims(self):
        rng = Random(61)
        for things, many in zip(THINGS, (30, 60, 60, 60, 8)):
            families = all_families(things)
            for _ in range(many):
                claim = draw_claim(rng, things, 6)
                self.assertEqual(set_of(things, claim), set_words(families, [claim]))

    def test_all_and_none(self):
        for things in THINGS + (WORDS,):
            self.assertEqual(set_of(things, TRUE), 2 ** MANY[len(things)] - 1)
            self.assertEqual(set_of(things, FALSE), 0)
            # The first family, in which () alone can stand, and the last one, in which all things can.
            self.assertEqual(set_of(things, ("not", ("atleast", things, (), 1))), 1)
            self.assertEqual(set_of(claim=can_stand(things, things), things=things), 2 ** (MANY[len(things)] - 1))

    def test_bad_things_come_first(self):
        for value in NOTHING_KNOWN + [()]:
            for claim in (TRUE, None, ()):
                self.refused(BadThings, "value", value, set_of, value, claim)

    def test_what_is_no_claim(self):
        for value in NO_CLAIMS:
            self.refused(BadClaim, "value", value, set_of, AB, value)
        self.refused(BadClaim, "value", None, set_of, claim=None, things=AB)


class LeftTest(unittest.TestCase):
    def test_drawn_books(self):
        for things, many in zip(THINGS, (40, 60, 60, 60, 10)):
            families = all_families(things)
            for book in drawn_books(things, many, 62):
                expected = set_words(families, book.facts)
                found = left(book)
                self.assertEqual(found, expected)
                self.assertIs(type(found), int)
                self.assertEqual([family for number, family in enumerate(families) if found >> number & 1],
                                 [family for family in families if book.keeps(family)])

    def test_of_a_book_that_is_not_possible(self):
        self.assertEqual(left(QUARREL), 0)
        for things in THINGS:
            self.assertEqual(left(Book(things, [FALSE])), 0)
            for claim in some_claims(things)[::5]:
                self.assertEqual(left(Book(things, [claim, opposite(claim)])), 0)

    def test_ordinary(self):
        for things in THINGS + (WORDS,):
            self.assertEqual(left(Book(things)), 2 ** MANY[len(things)] - 1)
        self.assertEqual(left(book=Book(AB, [can_stand(AB, AB)])), 16)
        self.assertEqual(left(Book(AB, [("not", can_stand(AB, AB))])), 15)


class FamiliesInTest(Refusals):
    def test_all_sets_on_one_and_two_things(self):
        for things in (A, AB):
            families = all_families(things)
            for number in range(2 ** len(families)):
                expected = [family for at, family in enumerate(families) if number // 2 ** at % 2]
                self.assertEqual(families_in(things, number), expected)

    def test_drawn_sets(self):
        rng = Random(63)
        for things in THINGS + (WORDS,):
            families = all_families(things)
            for number in [0, 2 ** len(families) - 1] + [rng.randrange(2 ** len(families)) for _ in range(12)]:
                found = families_in(things, number)
                self.assertIs(type(found), list)
                self.assertEqual(found, [family for at, family in enumerate(families) if number // 2 ** at % 2])
            for number, family in list(enumerate(families))[::7]:
                self.assertEqual(families_in(things, 2 ** number), [family])

    def test_there_and_back(self):
        for claim in some_claims(ABC):
            self.assertEqual(families_in(ABC, set_of(ABC, claim)), [f for f in all_families(ABC) if truth(f, claim)])

    def test_bad_things_come_first(self):
        for value in NOTHING_KNOWN + [()]:
            for number in (0, -1, None):
                self.refused(BadThings, "value", value, families_in, value, number)

    def test_what_is_no_set(self):
        for things in THINGS + (WORDS,):
            greatest = 2 ** MANY[len(things)]
            for value in (greatest, greatest + 1, -1, -greatest, 10 ** 999, -(10 ** 999), True, False):
                self.refused(BadNumber, "value", value, families_in, things, value)
        for value in [None, "", "0", b"0", (), (0,), [], [0], {}, {0}, len, Strange(), Echo(), Family(A, (0, 1)), Book(A)]:
            self.refused(BadNumber, "value", value, families_in, A, value)
        self.refused(BadNumber, "value", True, families_in, number=True, things=AB)

    def test_a_new_list_each_time(self):
        found = families_in(AB, 7)
        found.clear()
        self.assertEqual(families_in(AB, 7), all_families(AB)[:3])


class FollowsByBitsTest(Refusals):
    def test_drawn_books(self):
        rng = Random(64)
        for things, many in zip(THINGS, (30, 50, 50, 40, 6)):
            families = all_families(things)
            answers = []
            for book in drawn_books(things, many, 65):
                kept = [family for family in families if all(truth(family, fact) for fact in book.facts)]
                for claim in (draw_claim(rng, things), telling_claim(rng, things, kept[:8], families), TRUE, FALSE):
                    expected = all(truth(family, claim) for family in kept)
                    self.assertIs(follows_by_bits(book, claim), expected)
                    answers.append(expected)
                    if kept:
                        self.assertIs(follows(book, claim), expected)
            self.assertEqual(set(answers), {True, False})

    def test_everything_follows_from_a_quarrel(self):
        for claim in some_claims(AB):
            self.assertIs(follows_by_bits(QUARREL, claim), True)
        self.assertIs(follows_by_bits(claim=FALSE, book=Book(ABCDE, [FALSE])), True)
        self.assertIs(follows_by_bits(Book(ABCDE), FALSE), False)

    def test_what_is_no_claim(self):
        for value in NO_CLAIMS:
            for book in (Book(AB), QUARREL):
                self.refused(BadClaim, "value", value, follows_by_bits, book, value)


class UnchangedTest(unittest.TestCase):
    def test_equal_calls_return_equal_results(self):
        book = Book(ABC, [can_stand(ABC, AB)])
        told = left(book), set_of(ABC, book[0]), families_in(ABC, 77), follows_by_bits(book, can_stand(ABC, A))
        for other in drawn_books(ABCD, 4, 66):
            left(other)
        self.assertEqual(told, (left(book), set_of(ABC, book[0]), families_in(ABC, 77), follows_by_bits(book, can_stand(ABC, A))))
        self.assertEqual(book, Book(ABC, [can_stand(ABC, AB)]))


class TimeTest(unittest.TestCase):
    def test_four_things_within_a_generous_time(self):
        books = drawn_books(ABCD, 20, 67)
        started = perf_counter()
        for book in books:
            left(book), follows_by_bits(book, can_stand(ABCD, AB)), set_of(ABCD, ("all", book.facts[:4]))
        self.assertTrue(perf_counter() - started < 1)


if __name__ == "__main__":
    unittest.main()
