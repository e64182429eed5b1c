"""Needless facts, least lists of facts, and books that are alike."""

import unittest
from itertools import combinations
from random import Random
from time import perf_counter

from claim_words import chain, opposite, some_claims, truth
from drawn import draw_claim, drawn_books, telling_claim
from plain import A, AB, ABC, ABCD, ABCDE, NOTHING_KNOWN, THINGS, WORDS, Echo, Refusals, minus, parts_of
from tree_words import keeping

from standlots.books import Book
from standlots.claims import adds_nothing, can_stand
from standlots.errors import BadClaim, BadThings, Quarrel
from standlots.facts import alike, lean, least_facts, needless, parted
from standlots.families import Family, all_families
from standlots.trees import is_quarrel

TRUE = ("all", ())
FALSE = ("some", ())
B = ("b",)
QUARREL = Book(AB, [can_stand(AB, AB), ("not", can_stand(AB, A))])
NO_CLAIMS = NOTHING_KNOWN + [(), Echo(), ("atleast", A, (), 10), ("all", [TRUE]), ("all", (TRUE,) * 60), chain(TRUE, 6)]


class Words:
    """What follows from some facts of a book, by the words of promises 18 and 24."""

    def __init__(self, book):
        self.families = all_families(book.things)
        self.numbers = range(len(book.facts))
        self.sets = [self.set_of(fact) for fact in book.facts]

    def set_of(self, claim):
        return frozenset(number for number, family in enumerate(self.families) if truth(family, claim))

    def left(self, numbers):
        left = frozenset(range(len(self.families)))
        for number in numbers:
            left = left & self.sets[number]
        return left

    def needless(self, numbers):
        return tuple(number for number in numbers if self.left(minus(numbers, (number,))) <= self.sets[number])

    def least(self, claim):
        holding = self.set_of(claim)
        found = []
        for many in range(len(self.numbers) + 1):
            for numbers in combinations(self.numbers, many):
                shorter = [minus(numbers, (number,)) for number in numbers]
                if self.left(numbers) <= holding and not any(self.left(rest) <= holding for rest in shorter):
                    found.append(numbers)
        return tuple(sorted(found))

    def lean(self):
        """The numbers of the facts that stay."""
        kept = tuple(self.numbers)
        while self.needless(kept):
            kept = minus(kept, self.needless(kept)[-1:])
        return kept


class FactsCase(Refusals):
    def quarrels(self, book, function, /, *rest, **more):
        with self.assertRaises(Quarrel) as caught:
            function(*rest, **more)
        self.assertIs(type(caught.exception), Quarrel)
        self.assertIs(is_quarrel(book, caught.exception.tree), True)

    def impossible(self, seed):
        books = [QUARREL, Book(AB, [FALSE]), Book(ABCDE, [FALSE])]
        for things in (A, AB, ABC, ABCD):
            books += [book for book in drawn_books(things, 16, seed) if keeping(book) == []]
        return books


def hanging_books(things):
    """Books whose facts hang on one another, some of them twice."""
    whole = can_stand(things, things)
    singles = [can_stand(things, (thing,)) for thing in things]
    pairs = [can_stand(things, lot) for lot in parts_of(things) if len(lot) == 2]
    hulls = [adds_nothing(things, things[:1], thing) for thing in things[1:]]
    low = ("not", ("atleast", things, (), 2))
    return [Book(things, facts[:12]) for facts in (
        [], [TRUE], [whole], singles, singles + [whole], [whole] + singles, singles + singles, pairs + singles, singles + pairs,
        [whole, whole], [whole] * 12, [TRUE, singles[0], TRUE, singles[0]], singles + hulls, hulls + singles + hulls,
        [low] + singles, singles + [low], [low, low] + hulls, singles + hulls + [low], [("some", (whole, low)), singles[0]],
        [singles[0], ("some", (singles[0], whole)), ("all", (singles[0], TRUE))],
        [("some", (("not", single), singles[0])) for single in singles] + singles[::-1],
    )]


class NeedlessTest(FactsCase):
    def holds(self, book):
        words = Words(book)
        numbers = tuple(words.numbers)
        told = needless(book)
        self.assertIs(type(told), tuple)
        self.assertEqual(told, words.needless(numbers))
        shorter = lean(book)
        self.assertIs(type(shorter), Book)
        self.assertEqual(shorter, Book(book.things, [book[number] for number in words.lean()]))
        self.assertEqual(needless(shorter), ())
        self.assertEqual(lean(shorter), shorter)
        self.assertIs(alike(book, shorter), True)
        return told

    def test_drawn_books(self):
        for things, many in zip(THINGS, (20, 50, 60, 40, 8)):
            told = [self.holds(book) for book in drawn_books(things, many, 101, least_hidden=1)]
            self.assertIn((), told)
            self.assertTrue(max(len(numbers) for numbers in told) > 1)

    def test_facts_that_hang_on_one_another(self):
        for things in THINGS[1:] + (WORDS,):
            for book in hanging_books(things):
                self.holds(book)

    def test_ordinary(self):
        self.assertEqual(needless(Book(AB)), ())
        self.assertEqual(lean(Book(AB)), Book(AB))
        twice = Book(AB, [can_stand(AB, A), can_stand(AB, B), can_stand(AB, A)])
        self.assertEqual(needless(twice), (0, 2))
        self.assertEqual(lean(twice), Book(AB, twice.facts[:2]))
        pair = Book(AB, [can_stand(AB, A), can_stand(AB, AB), can_stand(AB, B)])
        self.assertEqual(needless(book=pair), (0, 2))
        self.assertEqual(lean(book=pair), Book(AB, [can_stand(AB, AB)]))
        # Each of three follows from the two others, and the last one is left out.
        ring = Book(AB, [("some", (can_stand(AB, A), can_stand(AB, B))), can_stand(AB, A), can_stand(AB, B)])
        self.assertEqual((needless(ring), lean(ring)), ((0,), Book(AB, ring.facts[1:])))

    def test_a_quarrel(self):
        for book in self.impossible(102):
            self.quarrels(book, needless, book)
            self.quarrels(book, lean, book=book)


class LeastFactsTest(FactsCase):
    def holds(self, book, claim):
        told = least_facts(book, claim)
        self.assertEqual(told, Words(book).least(claim))
        self.assertEqual({type(row) for row in (told,) + told}, {tuple})
        return told

    def test_drawn_books(self):
        rng = Random(103)
        for things, many in zip(THINGS, (20, 40, 40, 20, 4)):
            told = []
            for book in drawn_books(things, many, 104, least_hidden=1):
                if len(book) > 8:
                    book = book.only(tuple(range(8)))
                left = keeping(book)
                for claim in (draw_claim(rng, things), telling_claim(rng, things, left[:8], all_families(things)), TRUE, FALSE):
                    told.append(self.holds(book, claim))
            self.assertTrue(() in told and ((),) in told)
            if 1 < len(things) < 5:
                self.assertTrue(max(len(lists) for lists in told) > 1)

    def test_facts_that_hang_on_one_another(self):
        for things in (AB, ABC, ABCD):
            for book in hanging_books(things):
                if len(book) < 9:
                    for claim in some_claims(things)[::4] + list(book.facts[:2]):
                        self.holds(book, claim)

    def test_twelve_facts(self):
        singles = [can_stand(ABC, (thing,)) for thing in ABC]
        book = Book(ABC, singles * 4)
        for claim in (singles[0], ("all", tuple(singles)), ("some", tuple(singles)), TRUE, can_stand(ABC, ABC)):
            self.holds(book, claim)
        self.assertEqual(len(least_facts(book, ("all", tuple(singles)))), 64)

    def test_ordinary(self):
        book = Book(AB, [can_stand(AB, A), can_stand(AB, B), can_stand(AB, A), can_stand(AB, AB)])
        self.assertEqual(least_facts(book, can_stand(AB, A)), ((0,), (2,), (3,)))
        self.assertEqual(least_facts(book, ("atleast", AB, (), 1)), ((0,), (1,), (2,), (3,)))
        both = ("all", (can_stand(AB, A), can_stand(AB, B)))
        self.assertEqual(least_facts(claim=both, book=book), ((0, 1), (1, 2), (3,)))
        self.assertEqual(least_facts(book, TRUE), ((),))
        self.assertEqual(least_facts(book, FALSE), ())
        self.assertEqual(least_facts(Book(AB), can_stand(AB, ())), ((),))
        self.assertEqual(least_facts(Book(AB), can_stand(AB, A)), ())

    def test_what_is_no_claim_comes_first(self):
        for value in NO_CLAIMS:
            for book in (Book(AB), QUARREL):
                self.refused(BadClaim, "value", value, least_facts, book, value)

    def test_then_a_quarrel(self):
        for book in self.impossible(105):
            for claim in (TRUE, FALSE):
                self.quarrels(book, least_facts, book, claim)


class PartedTest(FactsCase):
    def holds(self, one, other):
        sets = [{family.counts for family in keeping(book)} for book in (one, other)]
        self.assertIs(alike(one, other), sets[0] == sets[1])
        told = parted(one, other)
        if sets[0] == sets[1]:
            self.assertIsNone(told)
        else:
            self.assertEqual((type(told), len(told), type(told[0]), type(told[1])), (tuple, 2, int, Family))
            number, family = told
            self.assertIn(number, (0, 1))
            self.assertEqual(family.things, one.things)
            self.assertIn(family.counts, sets[number] - sets[1 - number])
            self.assertEqual(((one, other)[number].keeps(family), (one, other)[1 - number].keeps(family)), (True, False))
        self.assertEqual(parted(one, other), told)
        return None if told is None else told[0]

    def test_drawn_books(self):
        for things, many in zip(THINGS, (10, 16, 20, 16, 5)):
            books = drawn_books(things, many, 106, least_hidden=1) + [Book(things)]
            told = [self.holds(one, other) for one in books for other in books[::2]]
            self.assertTrue({None, 0, 1} <= set(told))

    def test_the_one_within_the_other(self):
        for book in drawn_books(ABC, 30, 107, least_hidden=1):
            for number in range(len(book)):
                less = book.only(tuple(at for at in range(len(book)) if at != number))
                self.assertIn(self.holds(book, less), (None, 1))
                self.assertIn(self.holds(less, book), (None, 0))

    def test_ordinary(self):
        one = Book(AB, [can_stand(AB, A)])
        other = Book(AB, [can_stand(AB, A), can_stand(AB, B)])
        self.assertIs(alike(one, other), False)
        self.assertEqual(parted(one, other), (0, Family(AB, (0, 1, 1, 0))))
        self.assertEqual(parted(other=one, one=other), (1, Family(AB, (0, 1, 1, 0))))
        self.assertIs(alike(other=Book(AB, other.facts[::-1] + (TRUE,)), one=other), True)
        self.assertIsNone(parted(one, Book(AB, [can_stand(AB, A)])))
        self.assertIs(alike(Book(ABCDE), Book(ABCDE, [TRUE])), True)
        self.assertIs(alike(Book(AB, [opposite(can_stand(AB, A))]), Book(AB, [("not", ("atleast", A, (), 1))])), True)

    def test_unlike_things_come_first(self):
        quarrel = Book(ABC, [FALSE])
        for things in (A, B, ABC, ("a", "c"), ABCD, ("aa", "b")):
            for function in (alike, parted):
                for one in (Book(AB), QUARREL):
                    for other in (Book(things), Book(things, [FALSE])):
                        self.refused(BadThings, "value", things, function, one, other)
                        self.refused(BadThings, "value", AB, function, other, one)
        self.refused(BadThings, "value", ABC, alike, other=quarrel, one=QUARREL)

    def test_then_the_first_quarrel(self):
        other = Book(AB, [("not", can_stand(AB, B)), can_stand(AB, B)])
        # The trees that are found here are each a quarrel of just one of the two books, so it shows whose they are.
        for function in (alike, parted):
            for one, two, first in ((QUARREL, other, QUARREL), (other, QUARREL, other), (QUARREL, Book(AB), QUARREL),
                                    (Book(AB), QUARREL, QUARREL), (Book(AB), other, other)):
                self.quarrels(first, function, one, two)
                with self.assertRaises(Quarrel) as caught:
                    function(one, two)
                self.assertIs(is_quarrel(QUARREL if first == other else other, caught.exception.tree), False)


class UnchangedTest(unittest.TestCase):
    def test_equal_calls_return_equal_results(self):
        book = Book(ABC, [can_stand(ABC, A), can_stand(ABC, AB), can_stand(ABC, A)])
        told = needless(book), lean(book), least_facts(book, book[0]), parted(book, Book(ABC))
        for other in drawn_books(ABC, 5, 108, least_hidden=1):
            needless(other), lean(other), least_facts(other, TRUE), parted(other, Book(ABC))
        self.assertEqual(told, (needless(book), lean(book), least_facts(book, book[0]), parted(book, Book(ABC))))
        self.assertEqual(book, Book(ABC, [can_stand(ABC, A), can_stand(ABC, AB), can_stand(ABC, A)]))


class TimeTest(unittest.TestCase):
    def test_four_things_within_a_generous_time(self):
        books = drawn_books(ABCD, 20, 109, least_hidden=1)
        started = perf_counter()
        for book in books:
            needless(book), lean(book), least_facts(book, can_stand(ABCD, AB)), alike(book, Book(ABCD))
        self.assertTrue(perf_counter() - started < 2)


if __name__ == "__main__":
    unittest.main()
