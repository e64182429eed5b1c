"""Best lots of the families that a book leaves."""

import unittest
from itertools import product
from random import Random

from drawn import drawn_books
from plain import A, AB, ABC, ABCD, ABCDE, NOTHING_KNOWN, THINGS, WORDS, Echo, Refusals, Strange, standing
from tree_words import keeping

from standlots.best import maybe_best, surely_best, surely_worth
from standlots.books import Book
from standlots.claims import can_stand
from standlots.errors import BadNumber, Quarrel
from standlots.families import Family
from standlots.trees import is_quarrel

B = ("b",)
ONE_LEFT = Book(AB, [can_stand(AB, A), can_stand(AB, B), ("not", can_stand(AB, AB))])
QUARREL = Book(AB, [can_stand(AB, AB), ("not", can_stand(AB, A))])
GREAT = 10 ** 999


def worth(things, weights, lot):
    return sum(weight for thing, weight in zip(things, weights) if thing in lot)


class BestCase(Refusals):
    def holds(self, book, weights, kept):
        """What is told, by the words of promise 16 for each family left."""
        best = []
        sums = []
        for family in kept:
            lots = standing(family)
            most = max(worth(book.things, weights, lot) for lot in lots)
            sums.append(most)
            best.append({lot for lot in lots if worth(book.things, weights, lot) == most})
        surely = surely_best(book, weights)
        maybe = maybe_best(book, weights)
        self.assertEqual((type(surely), type(maybe)), (tuple, tuple))
        self.assertEqual(surely, tuple(sorted(set.intersection(*best))))
        self.assertEqual(maybe, tuple(sorted(set.union(*best))))
        told = surely_worth(book, weights)
        self.assertEqual((type(told), told), (tuple, (min(sums), max(sums))))


class BestTest(BestCase):
    def test_all_small_weights(self):
        for things, many in ((A, 4), (AB, 6), (ABC, 5)):
            for book in drawn_books(things, many, 71, least_hidden=1):
                kept = keeping(book)
                for weights in product((-1, 0, 1, 2), repeat=len(things)):
                    self.holds(book, weights, kept)

    def test_drawn_weights(self):
        rng = Random(72)
        for things, many in zip(THINGS, (12, 20, 30, 30, 5)):
            for book in drawn_books(things, many, 73, least_hidden=1):
                kept = keeping(book)
                for kind in ((1, 2, 3, 5, 8), (0, 1), (-3, -2, -1), (-2, 0, 2), (7,), (0,), (GREAT, -GREAT, GREAT + 1)):
                    weights = tuple(rng.choice(kind) for _ in things)
                    self.holds(book, weights, kept)

    def test_other_words(self):
        for book in (Book(WORDS), Book(WORDS, [can_stand(WORDS, ("ab", "z")), ("not", can_stand(WORDS, ("b",)))])):
            self.holds(book, (3, 1, 4, 1, 5), keeping(book))

    def test_ordinary(self):
        book = Book(ABC, [can_stand(ABC, (thing,)) for thing in ABC]
                    + [("not", can_stand(ABC, AB)), ("not", can_stand(ABC, ("a", "c")))])
        self.assertEqual(surely_best(book, (2, 1, 1)), (A,))
        self.assertEqual(surely_worth(book, (2, 1, 1)), (2, 2))
        self.assertEqual(surely_best(ONE_LEFT, (1, 1)), (A, B))
        self.assertEqual(surely_best(ONE_LEFT, (1, 0)), (A,))
        # A thing of no weight may be there or not.
        self.assertEqual(maybe_best(Book(AB), (1, 0)), ((), A, AB, B))
        self.assertEqual(surely_best(Book(AB), (1, 0)), ())
        self.assertEqual(surely_worth(Book(AB), (1, 0)), (0, 1))
        self.assertEqual(surely_best(weights=(-1, -1), book=Book(AB)), ((),))
        self.assertEqual(maybe_best(weights=(-1, -1), book=Book(AB)), ((),))
        self.assertEqual(surely_worth(weights=(5, GREAT), book=Book(AB, [can_stand(AB, A)])), (5, GREAT + 5))
        self.assertEqual(surely_worth(Book(ABCDE), (1, 2, 3, 4, 5)), (0, 15))


class RefusedTest(BestCase):
    def test_what_is_no_weights(self):
        bad = [value for value in NOTHING_KNOWN if not isinstance(value, tuple)] + [
            (), (1,), (1, 2, 3), (1, True), (False, 0), (1, None), (None, 1), ("1", 2), (1, "2"), [1, 2], (1, (2,)), ((1, 2),),
            (1, Strange()), Echo(), (Echo(), 1), (Echo(), Echo()), {0: 1, 1: 2}, "ab", b"ab", range(2), (1, 2, 3, 4, 5, 6), AB,
            Family(AB, (0, 1, 1, 1)), ONE_LEFT, (1, [2]), (1, b"2"),
        ]
        for value in bad:
            for book in (Book(AB), ONE_LEFT, QUARREL):
                for function in (surely_best, maybe_best, surely_worth):
                    self.refused(BadNumber, "value", value, function, book, value)
        self.refused(BadNumber, "value", (1,), surely_best, weights=(1,), book=Book(ABC))

    def test_then_a_quarrel(self):
        books = [QUARREL, Book(AB, [("some", ())])]
        for things in (A, AB, ABC, ABCD):
            books += [book for book in drawn_books(things, 24, 74) if keeping(book) == []]
        for book in books:
            for function in (surely_best, maybe_best, surely_worth):
                with self.assertRaises(Quarrel) as caught:
                    function(book, (1,) * len(book.things))
                self.assertIs(is_quarrel(book, caught.exception.tree), True)
        self.assertTrue(len(books) > 6)


class UnchangedTest(unittest.TestCase):
    def test_equal_calls_return_equal_results(self):
        weights = (1, 2, -1)
        book = Book(ABC, [can_stand(ABC, AB)])
        told = surely_best(book, weights), maybe_best(book, weights), surely_worth(book, weights)
        surely_best(Book(ABC), (9, 9, 9)), maybe_best(Book(ABCD), (1, 2, 3, 4))
        self.assertEqual(told, (surely_best(book, weights), maybe_best(book, weights), surely_worth(book, weights)))
        self.assertEqual((book, weights), (Book(ABC, [can_stand(ABC, AB)]), (1, 2, -1)))


if __name__ == "__main__":
    unittest.main()
