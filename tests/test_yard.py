"""Yards: answers, facts, taking back, trials."""

import unittest
from random import Random

from claim_words import chain, opposite, some_claims, truth
from drawn import draw_claim, drawn_books
from plain import (A, AB, ABC, ABCD, ABCDE, ITERATING, NOTHING_KNOWN, OPERATORS, THINGS, Echo, Refusals, Strange, parts_of,
                   standing)
from tree_words import keeping

from standlots.books import Book
from standlots.claims import adds_nothing, can_stand
from standlots.errors import BadFacts, BadLot, BadNumber, Quarrel
from standlots.families import Family, all_families
from standlots.questions import next_question
from standlots.trees import is_quarrel
from standlots.yard import Yard, tried

TRUE = ("all", ())
FALSE = ("some", ())
B = ("b",)
QUARREL = Book(AB, [can_stand(AB, AB), ("not", can_stand(AB, A))])
NO_CLAIMS = NOTHING_KNOWN + [(), Echo(), ("atleast", A, (), 10), ("all", [TRUE]), ("all", (TRUE,) * 60), chain(TRUE, 6)]
NO_TRUTHS = [None, 0, 1, -1, 2, 10 ** 999, "", "True", "yes", b"", (), (True,), [], [True], {}, {True: True}, {True}, len, bool,
             Strange(), Echo(), Book(AB), Family(A, (0, 1))]


class Stop(Exception):
    """What a block is left by."""


class YardCase(Refusals):
    def is_as(self, yard, book, learnt):
        """The yard has this book and so many facts that were learnt, and tells what it should."""
        left = keeping(book)
        self.assertEqual((yard.book, len(yard), yard.many()), (book, learnt, len(left)))
        for lot in parts_of(book.things):
            stands = {lot in standing(family) for family in left}
            self.assertIs(yard.surely(lot), None if len(stands) == 2 else stands.pop())
        self.assertEqual(yard.ask(), next_question(book))

    def quarrels(self, book, function, /, *rest, **more):
        with self.assertRaises(Quarrel) as caught:
            function(*rest, **more)
        self.assertIs(type(caught.exception), Quarrel)
        self.assertIs(is_quarrel(book, caught.exception.tree), True)


class MakingTest(YardCase):
    def test_drawn_books(self):
        for things, many in zip(THINGS, (5, 10, 12, 10, 3)):
            for book in drawn_books(things, many, 111, least_hidden=1):
                self.is_as(Yard(book), book, 0)

    def test_by_the_name(self):
        self.is_as(Yard(book=Book(AB)), Book(AB), 0)
        self.assertEqual([len(Yard(Book(things)).book) for things in THINGS], [0] * 5)
        self.assertEqual([Yard(Book(things)).many() for things in THINGS], [2, 5, 16, 68, 406])

    def test_a_quarrel(self):
        for book in (QUARREL, Book(A, [FALSE]), Book(ABCDE, [FALSE])):
            self.quarrels(book, Yard, book)
            self.quarrels(book, Yard, book=book)

    def test_the_property(self):
        self.assertIsInstance(vars(Yard)["book"], property)
        yard = Yard(Book(AB))
        with self.assertRaises(AttributeError):
            yard.book = Book(A)
        self.assertEqual(yard.book, Book(AB))
        self.assertIs(type(yard.book), Book)

    def test_methods_are_defined_in_the_class_itself(self):
        for name in ("__init__", "__len__", "__eq__", "book", "many", "answer", "learn", "undo", "surely", "ask", "trial"):
            self.assertIn(name, vars(Yard))


class LearnTest(YardCase):
    def test_fact_by_fact(self):
        for things in (AB, ABC, ABCD):
            for end in drawn_books(things, 8, 112, least_hidden=1):
                yard = Yard(Book(things))
                for number, fact in enumerate(end.facts):
                    self.assertIsNone(yard.learn(fact))
                    self.is_as(yard, end.only(tuple(range(number + 1))), number + 1)

    def test_behind_facts_that_were_there(self):
        book = Book(AB, [can_stand(AB, A)])
        yard = Yard(book)
        yard.learn(claim=can_stand(AB, B))
        self.is_as(yard, book.adding(can_stand(AB, B)), 1)
        self.assertEqual(book, Book(AB, [can_stand(AB, A)]))

    def test_what_is_no_claim(self):
        yard = Yard(Book(AB, [TRUE]))
        yard.learn(can_stand(AB, A))
        book = yard.book
        for value in NO_CLAIMS:
            self.refused(BadFacts, "number", 2, yard.learn, value)
            self.refused(BadFacts, "number", 0, Yard(Book(AB)).learn, claim=value)
        self.is_as(yard, book, 1)

    def test_up_to_twelve(self):
        for start in (0, 3, 12):
            facts = [TRUE] * 12
            yard = Yard(Book(AB, facts[:start]))
            for _ in range(12 - start):
                yard.learn(TRUE)
            self.assertEqual((len(yard), len(yard.book)), (12 - start, 12))
            for claim in (TRUE, can_stand(AB, A), FALSE):
                self.refused(BadFacts, "number", None, yard.learn, claim)
            for value in NO_CLAIMS:
                self.refused(BadFacts, "number", 12, yard.learn, value)
            self.refused(BadFacts, "number", None, yard.answer, A, True)
            self.refused(BadFacts, "number", None, yard.answer, A, False)
            self.is_as(yard, Book(AB, facts), 12 - start)
            if start < 12:
                yard.undo()
                yard.answer(A, True)
                self.is_as(yard, Book(AB, facts[:11] + [can_stand(AB, A)]), 12 - start)

    def test_a_quarrel(self):
        rng = Random(113)
        for things in (A, AB, ABC, ABCD):
            for book in drawn_books(things, 10, 114, least_hidden=1):
                if len(book) < 12:
                    left = keeping(book)
                    yard = Yard(book)
                    claims = list(book.facts) + [draw_claim(rng, things) for _ in range(9)]
                    for claim in [claim for claim in claims if all(truth(family, claim) for family in left)] + [TRUE]:
                        fact = opposite(claim)
                        self.quarrels(book.adding(fact), yard.learn, fact)
                        self.is_as(yard, book, 0)


class AnswerTest(YardCase):
    def test_both_answers(self):
        for things in (A, AB, ABC):
            for lot in parts_of(things):
                for stands in (True, False):
                    yard = Yard(Book(things))
                    claim = can_stand(things, lot) if stands else ("not", can_stand(things, lot))
                    if lot == () and not stands:
                        self.quarrels(Book(things, [claim]), yard.answer, lot, stands)
                        self.is_as(yard, Book(things), 0)
                    else:
                        self.assertIsNone(yard.answer(lot, stands))
                        self.is_as(yard, Book(things, [claim]), 1)
                        self.assertIs(yard.surely(lot), stands)

    def test_asking_until_all_is_known(self):
        for things in THINGS[:4]:
            for family in all_families(things)[::5]:
                yard = Yard(Book(things))
                while (lot := yard.ask()) is not None:
                    yard.answer(stands=lot in standing(family), lot=lot)
                self.assertEqual(yard.many(), 1)
                self.assertEqual(keeping(yard.book), [family])

    def test_against_what_is_known(self):
        yard = Yard(Book(AB, [can_stand(AB, AB)]))
        for lot in parts_of(AB):
            self.quarrels(yard.book.adding(("not", can_stand(AB, lot))), yard.answer, lot, False)
            yard.answer(lot, True)
        self.assertEqual(len(yard), 4)

    def test_the_lot_comes_first(self):
        yard = Yard(Book(AB))
        for value in NOTHING_KNOWN + [("c",), ABC, Echo(), (Echo(),)]:
            if type(value) is tuple and value in ((), A, B):
                continue
            for stands in (True, False, None, 1, "True"):
                self.refused(BadLot, "value", value, yard.answer, value, stands)
            self.refused(BadLot, "value", value, yard.surely, value)
        self.refused(BadLot, "value", None, yard.answer, stands=None, lot=None)
        self.refused(BadLot, "value", None, yard.surely, lot=None)
        self.is_as(yard, Book(AB), 0)

    def test_then_the_answer(self):
        full = Yard(Book(AB, [TRUE] * 12))
        yard = Yard(Book(AB))
        for value in NO_TRUTHS:
            self.refused(BadNumber, "value", value, yard.answer, A, value)
            self.refused(BadNumber, "value", value, yard.answer, (), stands=value)
            # Ahead of what learn refuses.
            self.refused(BadNumber, "value", value, full.answer, A, value)
        self.is_as(yard, Book(AB), 0)
        self.is_as(full, Book(AB, [TRUE] * 12), 0)


class UndoTest(YardCase):
    def test_some_of_them(self):
        facts = [can_stand(ABC, A), TRUE, ("not", can_stand(ABC, ("c",))), can_stand(ABC, B), adds_nothing(ABC, A, "b")]
        for start in range(6):
            for many in range(1, 6 - start):
                yard = Yard(Book(ABC, facts[:start]))
                for fact in facts[start:]:
                    yard.learn(fact)
                self.assertIsNone(yard.undo(many))
                self.is_as(yard, Book(ABC, facts[:5 - many]), 5 - start - many)
                yard.learn(facts[5 - many])
                self.is_as(yard, Book(ABC, facts[:6 - many]), 6 - start - many)

    def test_the_last_one(self):
        yard = Yard(Book(AB))
        yard.learn(can_stand(AB, A))
        yard.learn(can_stand(AB, B))
        yard.undo()
        self.is_as(yard, Book(AB, [can_stand(AB, A)]), 1)
        yard.undo(many=1)
        self.is_as(yard, Book(AB), 0)

    def test_what_is_no_such_number(self):
        yard = Yard(Book(AB, [TRUE, TRUE]))
        for learnt in range(3):
            book = yard.book
            for value in [0, -1, learnt + 1, learnt + 2, 12, 10 ** 999, -(10 ** 999), True, False, None, "1", b"1", (), (1,), [1],
                          {}, len, Strange(), Echo(), Book(AB), "", []]:
                self.refused(BadNumber, "value", value, yard.undo, value)
                self.refused(BadNumber, "value", value, yard.undo, many=value)
            if learnt == 0:
                self.refused(BadNumber, "value", 1, yard.undo)
            self.is_as(yard, book, learnt)
            yard.learn(can_stand(AB, A))


class SurelyTest(YardCase):
    def test_ordinary(self):
        yard = Yard(Book(AB, [can_stand(AB, A), ("not", can_stand(AB, AB))]))
        self.assertEqual([yard.surely(lot) for lot in ((), A, AB, B)], [True, True, False, None])
        self.assertEqual(yard.ask(), B)
        yard.answer(B, False)
        self.assertIs(yard.surely(lot=B), False)
        self.assertIsNone(yard.ask())
        self.assertEqual(yard.many(), 1)


class EqualTest(unittest.TestCase):
    def test_equal_books(self):
        one, other = Yard(Book(AB)), Yard(Book(AB, [can_stand(AB, A)]))
        self.assertIs(one == other, False)
        self.assertIs(one != other, True)
        one.learn(can_stand(AB, A))
        # However they came to it.
        self.assertIs(one == other, True)
        self.assertIs(one != other, False)
        self.assertEqual((len(one), len(other)), (1, 0))
        other.learn(can_stand(AB, B))
        one.learn(can_stand(AB, B))
        self.assertIs(one == other, True)
        one.undo()
        self.assertIs(one == other, False)
        self.assertIs(other == one, False)
        self.assertIs(Yard(Book(AB)) == Yard(Book(ABC)), False)
        self.assertIs(Yard(Book(AB)) == Yard(Book(AB)), True)

    def test_all_other_values_are_not_equal(self):
        yard = Yard(Book(AB))
        for value in [None, True, 0, "", (), AB, [], {}, len, Yard, Strange(), Book(AB), Family(AB, (0, 1, 1, 1)), (Book(AB),)]:
            self.assertIs(yard == value, False)
            self.assertIs(value == yard, False)
            self.assertIs(yard != value, True)
            self.assertIs(value != yard, True)


class OperatorsTest(unittest.TestCase):
    def test_operators(self):
        yard = Yard(Book(AB))
        for value in [None, True, 0, 2, "", "ab", b"a", (), (TRUE,), [], [1], {}, set(), len, Yard, Strange(), yard, Book(AB),
                      Family(AB, (0, 1, 1, 1))]:
            for operator in OPERATORS:
                with self.assertRaises(TypeError):
                    operator(yard, value)
                with self.assertRaises(TypeError):
                    operator(value, yard)
            for operator in (lambda: yard % value, lambda: value in yard, lambda: value not in yard, lambda: yard[value]):
                with self.assertRaises(TypeError):
                    operator()

    def test_iterating(self):
        yard = Yard(Book(AB))
        yard.learn(TRUE)
        for function in ITERATING + (reversed,):
            with self.assertRaises(TypeError):
                function(yard)
        with self.assertRaises(TypeError):
            one, *_ = yard


class TrialTest(YardCase):
    def start(self):
        yard = Yard(Book(ABC, [can_stand(ABC, A)]))
        yard.learn(can_stand(ABC, B))
        yard.learn(TRUE)
        return yard

    def test_learning(self):
        yard = self.start()
        book = yard.book
        with yard.trial() as same:
            self.assertIs(same, yard)
            yard.learn(can_stand(ABC, AB))
            same.answer(("c",), False)
            self.is_as(yard, book.adding(can_stand(ABC, AB)).adding(("not", can_stand(ABC, ("c",)))), 4)
        self.is_as(yard, book, 2)
        yard.undo(2)
        self.is_as(yard, Book(ABC, [can_stand(ABC, A)]), 0)

    def test_taking_back_beyond_its_beginning(self):
        yard = self.start()
        book = yard.book
        with yard.trial():
            yard.undo(2)
            self.is_as(yard, Book(ABC, [can_stand(ABC, A)]), 0)
            yard.answer(B, False)
            self.is_as(yard, Book(ABC, [can_stand(ABC, A), ("not", can_stand(ABC, B))]), 1)
            self.refused(BadNumber, "value", 2, yard.undo, 2)
        self.is_as(yard, book, 2)

    def test_an_exception_passes(self):
        yard = self.start()
        book = yard.book
        for error in (Stop, ValueError, KeyError, Quarrel):
            with self.assertRaises(error) as caught:
                with yard.trial() as same:
                    same.undo()
                    same.learn(can_stand(ABC, ABC))
                    raise error("left")
            self.assertEqual(caught.exception.args[:1] == ("left",), error is not Quarrel)
            self.is_as(yard, book, 2)
        with self.assertRaises(Quarrel):
            with yard.trial():
                yard.learn(can_stand(ABC, ABC))
                yard.learn(FALSE)
        self.is_as(yard, book, 2)

    def test_left_by_other_ways(self):
        yard = self.start()
        book = yard.book
        for _ in range(2):
            with yard.trial():
                yard.undo()
                continue
        self.is_as(yard, book, 2)
        while True:
            with yard.trial():
                yard.learn(TRUE)
                break
        self.is_as(yard, book, 2)

    def test_trials_in_one_another(self):
        yard = self.start()
        book = yard.book
        with yard.trial():
            yard.learn(can_stand(ABC, AB))
            middle = yard.book
            with yard.trial() as inner:
                inner.undo(3)
                inner.answer(B, False)
                with self.assertRaises(Stop):
                    with yard.trial():
                        yard.undo()
                        yard.answer(("c",), True)
                        raise Stop
                self.is_as(yard, Book(ABC, [can_stand(ABC, A), ("not", can_stand(ABC, B))]), 1)
            self.is_as(yard, middle, 3)
            yard.undo()
            self.is_as(yard, book, 2)
            yard.undo()
        self.is_as(yard, book, 2)
        with yard.trial(), yard.trial() as same:
            same.undo(2)
        self.is_as(yard, book, 2)

    def test_trials_of_two_yards(self):
        one, other = self.start(), Yard(Book(AB))
        with one.trial():
            with other.trial():
                one.undo()
                other.learn(TRUE)
            self.assertEqual((len(one), len(other)), (1, 0))
        self.assertEqual((len(one), len(other)), (2, 0))

    def test_one_behind_the_other(self):
        yard = self.start()
        first = yard.book
        with yard.trial():
            yard.undo()
        yard.learn(can_stand(ABC, AB))
        second = yard.book
        with yard.trial():
            yard.undo(3)
        self.is_as(yard, second, 3)
        yard.undo()
        self.is_as(yard, first, 2)


class TriedTest(YardCase):
    def test_what_it_returns(self):
        yard = Yard(Book(AB))
        seen = []

        def function(passed):
            seen.append(passed)
            passed.answer(A, True)
            return passed.many()

        self.assertEqual(tried(yard, function), len(keeping(Book(AB, [can_stand(AB, A)]))))
        self.assertEqual(len(seen), 1)
        self.assertIs(seen[0], yard)
        self.is_as(yard, Book(AB), 0)
        self.assertIsNone(tried(function=lambda passed: None, yard=yard))
        self.assertIs(tried(yard, lambda passed: passed), yard)

    def test_of_each_lot(self):
        yard = Yard(Book(ABC, [can_stand(ABC, A)]))
        yard.learn(can_stand(ABC, B))
        book = yard.book
        for lot in parts_of(ABC):
            for stands in (True, False):
                expected = [family for family in keeping(book) if (lot in standing(family)) == stands]

                def function(passed):
                    passed.answer(lot, stands)
                    return passed.many()

                if expected:
                    self.assertEqual(tried(yard, function), len(expected))
                else:
                    fact = can_stand(ABC, lot)
                    self.quarrels(book.adding(fact if stands else ("not", fact)), tried, yard, function)
                self.is_as(yard, book, 1)

    def test_a_function_that_raises(self):
        yard = Yard(Book(AB))
        yard.learn(can_stand(AB, A))

        def function(passed):
            passed.undo()
            passed.answer(AB, True)
            raise Stop

        with self.assertRaises(Stop):
            tried(yard, function)
        self.is_as(yard, Book(AB, [can_stand(AB, A)]), 1)
        self.refused(BadLot, "value", "a", tried, yard, lambda passed: passed.surely("a"))
        self.is_as(yard, Book(AB, [can_stand(AB, A)]), 1)

    def test_in_one_another(self):
        yard = Yard(Book(AB))

        def inner(passed):
            passed.undo()
            return len(passed)

        def outer(passed):
            passed.learn(TRUE)
            passed.learn(can_stand(AB, A))
            return tried(passed, inner), len(passed)

        self.assertEqual(tried(yard, outer), (1, 2))
        self.is_as(yard, Book(AB), 0)


class UnchangedTest(unittest.TestCase):
    def test_a_passed_book_stays_as_it_was(self):
        book = Book(AB, [can_stand(AB, A)])
        one, other = Yard(book), Yard(book)
        one.answer(B, True)
        self.assertEqual((book, other.book, len(other)), (Book(AB, [can_stand(AB, A)]), Book(AB, [can_stand(AB, A)]), 0))
        handed_out = one.book
        one.undo()
        one.answer(B, False)
        self.assertEqual(handed_out, Book(AB, [can_stand(AB, A), can_stand(AB, B)]))

    def test_facts_hold_of_what_is_left(self):
        yard = Yard(Book(ABC))
        for claim in some_claims(ABC):
            try:
                yard.learn(claim)
            except (Quarrel, BadFacts):
                continue
            for family in keeping(yard.book):
                self.assertTrue(truth(family, claim))


if __name__ == "__main__":
    unittest.main()
