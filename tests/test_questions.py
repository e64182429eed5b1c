"""Questions: which one to ask next, the fewest that settle a claim, and plans."""

import unittest
from random import Random
from time import perf_counter

from claim_words import chain, some_claims, truth
from drawn import books_of_few, draw_claim, drawn_books, telling_claim
from plain import A, AB, ABC, ABCD, ABCDE, NOTHING_KNOWN, THINGS, WORDS, Echo, Refusals, Strange, otherwise, parts_of, standing
from tree_words import keeping

from standlots.books import Book
from standlots.claims import adds_nothing, can_stand
from standlots.errors import BadClaim, Quarrel, TooMany
from standlots.families import Family
from standlots.questions import fewest, is_plan, next_question, plan
from standlots.trees import is_quarrel

TRUE = ("all", ())
FALSE = ("some", ())
B = ("b",)
PAIR = Family(AB, (0, 1, 1, 1))
SINGLES = Book(ABC, [can_stand(ABC, (thing,)) for thing in ABC])
ONE_LEFT = Book(AB, [can_stand(AB, A), can_stand(AB, B), ("not", can_stand(AB, AB))])
QUARREL = Book(AB, [can_stand(AB, AB), ("not", can_stand(AB, A))])
NO_CLAIMS = NOTHING_KNOWN + [(), Echo(), ("atleast", A, (), 10), ("all", [TRUE]), ("all", (TRUE,) * 60), chain(TRUE, 6)]
# 16 families count at most 1 of all things; one counts 4.
SIXTEEN = Book(ABCD, [("not", ("atleast", ABCD, (), 2))])
SEVENTEEN = Book(ABCD, [("some", (("not", ("atleast", ABCD, (), 2)), can_stand(ABCD, ABCD)))])


class Words:
    """What is promised of the families left of a book, by the words of promise 23."""

    def __init__(self, book, claim):
        families = keeping(book)
        self.every = frozenset(range(len(families)))
        self.holding = frozenset(number for number, family in enumerate(families) if truth(family, claim))
        self.table = {lot: frozenset(number for number, family in enumerate(families) if lot in standing(family))
                      for lot in parts_of(book.things)}
        self.known = {}

    def settled(self, left):
        return left <= self.holding or not left & self.holding

    def fewest(self, left):
        if self.settled(left):
            return 0
        if left not in self.known:
            parts = [(left & part, left - part) for part in self.table.values()]
            worst = [max(self.fewest(one), self.fewest(other)) for one, other in parts if one and other]
            self.known[left] = 1 + min(worst)
        return self.known[left]

    def questions(self, value, left):
        """How many questions a plan asks at worst, or None for what is none, but for that."""
        if self.settled(left):
            return 0 if type(value) is tuple and value == () else None
        if type(value) is not tuple or len(value) != 3 or type(value[0]) is not tuple:
            return None
        if any(type(word) is not str for word in value[0]) or value[0] not in self.table:
            return None
        one, other = left & self.table[value[0]], left - self.table[value[0]]
        if not one or not other:
            return None
        parts = self.questions(value[1], one), self.questions(value[2], other)
        return None if None in parts else 1 + max(parts)

    def is_plan(self, value):
        return self.questions(value, self.every) in range(self.fewest(self.every) + 1)

    def any_plan(self, rng, left):
        """A plan that asks for whatever parts the families left."""
        if self.settled(left):
            return ()
        lot = rng.choice([lot for lot, part in self.table.items() if left & part and left - part])
        return (lot, self.any_plan(rng, left & self.table[lot]), self.any_plan(rng, left - self.table[lot]))


def some_claims_on(rng, book):
    left = keeping(book)
    found = [draw_claim(rng, book.things), TRUE, FALSE, telling_claim(rng, book.things, left[:8], left)]
    lots = sorted(standing(rng.choice(left)))
    # That just this family is left, as far as the lots tell that can stand.
    return found + [("all", tuple(can_stand(book.things, lot) for lot in lots))]


def with_one_more(value, lots):
    """The plan with one more question at any place of it."""
    found = [(lot,) + parts for lot in lots for parts in ((value, ()), ((), value), (value, value))]
    if value:
        found += [(value[0], first, value[2]) for first in with_one_more(value[1], lots)]
        found += [(value[0], value[1], second) for second in with_one_more(value[2], lots)]
    return found


class NextQuestionTest(Refusals):
    def expected(self, book):
        left = keeping(book)
        best = None
        for lot in parts_of(book.things):
            many = len([family for family in left if lot in standing(family)])
            if 0 < many < len(left):
                greater = max(many, len(left) - many)
                if best is None or greater < best[0]:
                    best = (greater, lot)
        return None if best is None else best[1]

    def test_drawn_books(self):
        for things, many in zip(THINGS, (30, 50, 60, 40, 6)):
            for book in drawn_books(things, many, 81, least_hidden=1):
                told = next_question(book)
                self.assertEqual(told, self.expected(book))
                self.assertEqual(told is None, len(keeping(book)) == 1)

    def test_without_facts(self):
        for things in THINGS + (WORDS,):
            self.assertEqual(next_question(Book(things)), self.expected(Book(things)))

    def test_ordinary(self):
        self.assertEqual(next_question(Book(A)), A)
        self.assertEqual(next_question(book=Book(AB)), A)
        self.assertIsNone(next_question(ONE_LEFT))
        # Alike: each of the three lots of two things; the first one is asked for.
        self.assertEqual(next_question(SINGLES), ("a", "b"))

    def test_a_quarrel(self):
        with self.assertRaises(Quarrel) as caught:
            next_question(QUARREL)
        self.assertIs(is_quarrel(QUARREL, caught.exception.tree), True)


class FewestTest(Refusals):
    def holds(self, book, claim):
        words = Words(book, claim)
        expected = words.fewest(words.every)
        told = fewest(book, claim)
        self.assertEqual((type(told), told), (int, expected))
        value = plan(book, claim)
        self.assertEqual(words.questions(value, words.every), expected)
        self.assertIs(is_plan(book, claim, value), True)
        self.assertEqual((fewest(book, claim), plan(book, claim)), (told, value))
        if words.settled(words.every):
            self.assertEqual((told, value), (0, ()))
        return told

    def test_drawn_books(self):
        rng = Random(82)
        told = []
        for things, many in zip(THINGS, (5, 20, 30, 20, 2)):
            told += [self.holds(book, claim) for book in books_of_few(things, many, 83) for claim in some_claims_on(rng, book)]
        self.assertEqual(set(range(5)) - set(told), set())

    def test_without_facts(self):
        for things in (A, AB, ABC):
            for claim in some_claims(things):
                self.holds(Book(things), claim)

    def test_sixteen_families(self):
        rng = Random(84)
        for claim in some_claims(ABCD)[::3] + [draw_claim(rng, ABCD) for _ in range(5)]:
            self.holds(SIXTEEN, claim)
        # Each family by itself: nothing but the things one by one tells them.
        self.assertEqual(fewest(SIXTEEN, ("all", tuple(can_stand(ABCD, (thing,)) for thing in ABCD))), 4)

    def test_ordinary(self):
        self.assertEqual(fewest(SINGLES, can_stand(ABC, ABC)), 1)
        self.assertEqual(plan(SINGLES, can_stand(ABC, ABC)), (ABC, (), ()))
        self.assertEqual(fewest(claim=adds_nothing(AB, A, "b"), book=ONE_LEFT), 0)
        self.assertEqual(plan(claim=can_stand(AB, AB), book=ONE_LEFT), ())
        self.assertIs(is_plan(thing=(ABC, (), ()), claim=can_stand(ABC, ABC), book=SINGLES), True)
        self.assertIs(is_plan(SINGLES, can_stand(ABC, ABC), (AB, (), ())), False)
        # a.b adds up to two if both stand by themselves.
        self.assertEqual(fewest(Book(AB), ("atleast", AB, (), 1)), 2)
        self.assertEqual(fewest(Book(AB), can_stand(AB, A)), 1)

    def test_settled_claims(self):
        for book in books_of_few(ABC, 20, 85):
            for claim in (TRUE, FALSE) + book.facts + (("not", TRUE),):
                self.assertEqual((fewest(book, claim), plan(book, claim)), (0, ()))
                self.assertIs(is_plan(book, claim, ()), True)
                self.assertIs(is_plan(book, claim, (A, (), ())), False)


class IsPlanTest(Refusals):
    def told(self, book, claim, value):
        self.assertIs(is_plan(book, claim, value), Words(book, claim).is_plan(value))

    def test_one_thing_otherwise_at_any_depth(self):
        rng = Random(86)
        plans = []
        for things in (AB, ABC, ABCD):
            for book in books_of_few(things, 20, 87):
                for claim in some_claims_on(rng, book):
                    plans.append((book, claim, plan(book, claim)))
        plans = [row for row in plans if 2 <= str(row[2]).count("()") <= 5]
        for book, claim, value in plans[::max(1, len(plans) // 9)]:
            words = Words(book, claim)
            for other in otherwise(value):
                self.assertIs(is_plan(book, claim, other), words.is_plan(other), repr(other))

    def test_any_plans(self):
        rng = Random(88)
        answers = []
        for things, many in zip(THINGS, (3, 12, 12, 6, 1)):
            for book in books_of_few(things, many, 89):
                for claim in some_claims_on(rng, book):
                    words = Words(book, claim)
                    for _ in range(6):
                        value = words.any_plan(rng, words.every)
                        expected = words.is_plan(value)
                        self.assertIs(is_plan(book, claim, value), expected)
                        answers.append(expected)
                        # A question too many, and one that tells nothing.
                        for longer in ((A, value, value), ((), value, value), ((), (), value), (things, value, ())):
                            self.assertIs(is_plan(book, claim, longer), words.is_plan(longer))
        self.assertEqual(set(answers), {True, False})

    def test_one_more_question_at_any_place(self):
        rng = Random(95)
        unlike = 0
        for things in (AB, ABC):
            for book in books_of_few(things, 10, 96):
                for claim in some_claims_on(rng, book):
                    words = Words(book, claim)
                    value = plan(book, claim)
                    for longer in with_one_more(value, parts_of(things)):
                        self.assertIs(is_plan(book, claim, longer), words.is_plan(longer))
                        # Some of them ask no more at worst.
                        unlike += str(longer).count("()") < 2 ** words.fewest(words.every)
        self.assertTrue(unlike > 100)

    def test_a_question_that_tells_nothing(self):
        # Behind a there are two questions at worst if it can stand, and one if it cannot: there is time for one more.
        a, b, c = [can_stand(ABC, (thing,)) for thing in ABC]
        claim = ("some", (("all", (a, b, c)), ("all", (("not", a), b))))
        first, second = (B, (("c",), (), ()), ()), (B, (), ())
        self.assertEqual(fewest(Book(ABC), claim), 3)
        self.assertIs(is_plan(Book(ABC), claim, (A, first, second)), True)
        self.assertIs(is_plan(Book(ABC), claim, (A, first, (("c",), second, second))), True)
        for lot in ((), A, AB, ("a", "c"), ABC):
            for parts in ((second, ()), ((), second), (second, second)):
                self.assertIs(is_plan(Book(ABC), claim, (A, first, (lot,) + parts)), False)

    def test_with_a_lot_exchanged(self):
        rng = Random(90)
        for book in books_of_few(ABC, 12, 91):
            for claim in some_claims_on(rng, book):
                value = plan(book, claim)
                for lot in parts_of(ABC) + [("z",), "a", ["a"], None, ("b", "a")]:
                    if value:
                        self.told(book, claim, (lot,) + value[1:])
                    self.told(book, claim, (lot, (), ()))

    def test_of_another_claim(self):
        claims = some_claims(ABC)
        for claim in claims[::5]:
            for other in claims[::4]:
                self.told(Book(ABC), claim, plan(Book(ABC), other))

    def test_values_of_every_kind(self):
        for value in NOTHING_KNOWN + [Echo(), (Echo(),) * 3, (ABC, Echo(), ()), (ABC, (), Echo()), (Echo(), (), ()), [ABC, (), ()],
                                      (ABC, [], ()), (ABC, (), None), (ABC, ()), (ABC, (), (), ()), {}, Strange(), PAIR, (ABC,) * 3]:
            self.assertIs(is_plan(SINGLES, can_stand(ABC, ABC), value), False, repr(value))
            if value != () or type(value) is not tuple:
                self.assertIs(is_plan(SINGLES, TRUE, value), False, repr(value))

    def test_very_deep_values(self):
        value = ()
        for _ in range(60):
            value = (A, value, value)
        self.assertIs(is_plan(Book(ABC), can_stand(ABC, AB), value), False)


class ErrorsTest(Refusals):
    def test_what_is_no_claim_comes_first(self):
        for value in NO_CLAIMS:
            for book in (Book(AB), QUARREL, Book(ABCD)):
                self.refused(BadClaim, "value", value, fewest, book, value)
                self.refused(BadClaim, "value", value, plan, book, value)
                self.refused(BadClaim, "value", value, is_plan, book, value, ())
                self.refused(BadClaim, "value", value, is_plan, book, value, None)

    def test_then_a_quarrel(self):
        books = [QUARREL, Book(ABCD, [FALSE]), Book(ABCDE, [FALSE])]
        for things in (A, AB, ABC, ABCD):
            books += [book for book in drawn_books(things, 20, 92) if keeping(book) == []]
        for book in books:
            for call in (lambda: fewest(book, TRUE), lambda: plan(book, FALSE), lambda: is_plan(book, TRUE, ()),
                         lambda: is_plan(book, TRUE, None), lambda: next_question(book)):
                with self.assertRaises(Quarrel) as caught:
                    call()
                self.assertIs(is_quarrel(book, caught.exception.tree), True)

    def test_then_too_many(self):
        for book in (SEVENTEEN, Book(ABCD), Book(ABCDE), Book(WORDS), Book(ABCD, [can_stand(ABCD, A)])):
            # Of a claim that is settled, too.
            for claim in (TRUE, FALSE, can_stand(book.things, ()), can_stand(book.things, book.things)):
                self.refused(TooMany, "most", 16, fewest, book, claim)
                self.refused(TooMany, "most", 16, plan, book, claim)
                for value in ((), None, (A, (), ())):
                    self.refused(TooMany, "most", 16, is_plan, book, claim, value)

    def test_sixteen_and_seventeen(self):
        self.assertEqual([len(keeping(book)) for book in (SIXTEEN, SEVENTEEN)], [16, 17])
        self.assertEqual(fewest(SIXTEEN, can_stand(ABCD, A)), 1)
        self.assertEqual(fewest(SEVENTEEN.adding(("not", can_stand(ABCD, AB))), can_stand(ABCD, A)), 1)
        self.refused(TooMany, "most", 16, fewest, SEVENTEEN, can_stand(ABCD, A))


class UnchangedTest(unittest.TestCase):
    def test_equal_calls_return_equal_results(self):
        book = Book(ABC, [can_stand(ABC, A)])
        claim = can_stand(ABC, ABC)
        told = next_question(book), fewest(book, claim), plan(book, claim)
        for other in books_of_few(ABCD, 4, 93):
            fewest(other, TRUE), plan(other, can_stand(ABCD, A)), next_question(other)
        self.assertEqual(told, (next_question(book), fewest(book, claim), plan(book, claim)))
        self.assertEqual(book, Book(ABC, [can_stand(ABC, A)]))


class TimeTest(unittest.TestCase):
    def test_sixteen_families_within_a_generous_time(self):
        books = books_of_few(ABCD, 8, 94)
        started = perf_counter()
        for claim in some_claims(ABCD):
            fewest(SIXTEEN, claim), plan(SIXTEEN, claim)
        for book in books:
            fewest(book, can_stand(ABCD, AB)), plan(book, can_stand(ABCD, ("b", "c", "d"))), next_question(book)
        self.assertTrue(perf_counter() - started < 3)


if __name__ == "__main__":
    unittest.main()
