"""Books of facts, and which families keep them."""

import unittest
from itertools import combinations

from claim_words import is_claim, some_claims, truth
from plain import (A, AB, ABC, ABCDE, ITERATING, NOTHING_KNOWN, OPERATORS, THINGS, WORDS, Echo, Refusals, Strange, otherwise,
                   some_families)

from standlots.books import MOST_FACTS, Book
from standlots.claims import adds_nothing, can_stand
from standlots.errors import BadFacts, BadNumber, BadThings
from standlots.families import Family, all_families

ONE = can_stand(AB, A)
TWO = ("not", can_stand(AB, AB))
THREE = adds_nothing(AB, A, "b")
BOOK = Book(AB, (ONE, TWO, THREE))
NO_LISTS = [None, True, False, 0, 12, "", "ab", b"ab", {}, {0: ONE}, {ONE}, range(2), len, Strange(), Echo(), BOOK,
            Family(A, (0, 1))]
NO_CLAIMS = NOTHING_KNOWN + [(), Echo(), ("atleast", A, (), True), ("atleast", ("c",), (), 1), ("all", [ONE]), [ONE], (ONE,), BOOK,
                             ("all", (ONE,) * 60), ("not", ("not", ("not", ("not", ("not", ("not", ONE))))))]


class MakingTest(Refusals):
    def test_most_facts(self):
        self.assertEqual(MOST_FACTS, 12)
        self.assertIs(type(MOST_FACTS), int)

    def test_facts_as_list_and_as_tuple(self):
        for facts in ([ONE, TWO], (ONE, TWO)):
            book = Book(AB, facts)
            self.assertEqual((book.things, book.facts), (AB, (ONE, TWO)))
            self.assertEqual((type(book.things), type(book.facts)), (tuple, tuple))

    def test_without_facts(self):
        for book in (Book(AB), Book(AB, ()), Book(AB, []), Book(things=AB), Book(facts=[], things=AB)):
            self.assertEqual((book.things, book.facts, len(book)), (AB, (), 0))
            self.assertEqual(book, Book(AB))

    def test_facts_of_each_kind(self):
        for things in THINGS + (WORDS,):
            claims = some_claims(things)
            for at in range(0, len(claims), 5):
                self.assertEqual(Book(things, claims[at:at + 12]).facts, tuple(claims[at:at + 12]))
        self.assertEqual(Book(AB, [ONE, ONE, ONE]).facts, (ONE, ONE, ONE))

    def test_twelve_and_thirteen(self):
        for facts in ([ONE] * 12, (TWO,) * 12):
            self.assertEqual(len(Book(AB, facts)), 12)
        for many in (13, 14, 1000):
            for facts in ([ONE] * many, (ONE,) * many, [None] * many, [()] * many, [None] + [ONE] * (many - 1)):
                self.refused(BadFacts, "number", None, Book, AB, facts)

    def test_bad_things_come_first(self):
        for value in NOTHING_KNOWN + [()]:
            for facts in ((), [ONE], None, [None], [ONE] * 13):
                self.refused(BadThings, "value", value, Book, value, facts)
            self.refused(BadThings, "value", value, Book, value)

    def test_no_list_or_tuple(self):
        for value in NO_LISTS:
            self.refused(BadFacts, "number", None, Book, AB, value)
        self.refused(BadFacts, "number", None, Book, things=AB, facts=None)

    def test_the_first_item_that_is_no_claim(self):
        good = [ONE, TWO, THREE] * 4
        for value in NO_CLAIMS:
            for place in (0, 1, 5, 11):
                facts = good[:place] + [value] + good[place + 1:]
                self.refused(BadFacts, "number", place, Book, AB, facts)
                self.refused(BadFacts, "number", place, Book, AB, tuple(facts))
            self.refused(BadFacts, "number", 1, Book, AB, [ONE, value, value, None])

    def test_a_fact_with_a_part_otherwise(self):
        for value in otherwise(("some", (ONE, TWO))):
            if is_claim(AB, value):
                self.assertEqual(Book(AB, [ONE, value])[1], value)
            else:
                self.refused(BadFacts, "number", 1, Book, AB, [ONE, value])

    def test_fields_stay_as_they_were(self):
        facts = [ONE, TWO]
        book = Book(AB, facts)
        self.assertEqual(facts, [ONE, TWO])
        facts[0] = TWO
        facts.append(None)
        self.assertEqual((book.things, book.facts, len(book), book[0]), (AB, (ONE, TWO), 2, ONE))

    def test_methods_are_defined_in_the_class_itself(self):
        for name in ("__init__", "__getitem__", "__len__", "__eq__", "__iter__", "adding", "only", "keeps"):
            self.assertIn(name, vars(Book))


class NumbersTest(Refusals):
    def test_len(self):
        for many in range(13):
            self.assertEqual(len(Book(AB, [ONE] * many)), many)

    def test_each_number(self):
        facts = some_claims(ABC)[:12]
        for many in range(13):
            book = Book(ABC, facts[:many])
            self.assertEqual([book[number] for number in range(many)], facts[:many])

    def test_what_is_no_number(self):
        for value in [-1, -3, 3, 4, 12, 10 ** 999, -(10 ** 999), True, False, None, "", "0", b"0", (), (0,), [], [0], {}, {0: 0},
                      slice(0, 1), slice(None), len, Strange(), Echo(), BOOK]:
            self.refused(BadNumber, "value", value, lambda: BOOK[value])
        for value in (0, -1, 1, True, False, None, ()):
            self.refused(BadNumber, "value", value, lambda: Book(AB)[value])


class EqualTest(unittest.TestCase):
    def test_equal(self):
        self.assertIs(Book(AB, [ONE, TWO]) == Book(AB, (ONE, TWO)), True)
        self.assertIs(Book(AB, [ONE, TWO]) != Book(AB, (ONE, TWO)), False)
        books = [Book(AB), Book(AB, [ONE]), Book(AB, [TWO]), Book(AB, [ONE, TWO]), Book(AB, [TWO, ONE]), Book(AB, [ONE, ONE]),
                 Book(ABC), Book(ABC, [ONE]), Book(A), Book(A, [ONE])]
        for number, one in enumerate(books):
            for place, other in enumerate(books):
                self.assertIs(one == other, number == place)
                self.assertIs(one != other, number != place)

    def test_all_other_values_are_not_equal(self):
        for value in [None, True, 0, 3, "", "ab", b"", (), AB, (ONE, TWO, THREE), [ONE, TWO, THREE], (AB, (ONE, TWO, THREE)), {},
                      len, Book, Strange(), Family(AB, (0, 1, 1, 1))]:
            self.assertIs(BOOK == value, False)
            self.assertIs(value == BOOK, False)
            self.assertIs(BOOK != value, True)
            self.assertIs(value != BOOK, True)


class OperatorsTest(unittest.TestCase):
    def test_operators(self):
        for value in [None, True, 0, 2, "", "ab", b"a", (), (ONE,), [], [ONE], {}, set(), len, Book, Strange(), BOOK,
                      Family(AB, (0, 1, 1, 1))]:
            for operator in OPERATORS:
                with self.assertRaises(TypeError):
                    operator(BOOK, value)
                with self.assertRaises(TypeError):
                    operator(value, BOOK)
            with self.assertRaises(TypeError):
                BOOK % value

    def test_iterating(self):
        for book in (BOOK, Book(AB)):
            for function in ITERATING:
                with self.assertRaises(TypeError):
                    function(book)
            with self.assertRaises(TypeError):
                one, *_ = book
            rows = [1]
            with self.assertRaises(TypeError):
                rows += book
            self.assertEqual(rows, [1])

    def test_in(self):
        for value in (ONE, TWO, (), 0, None, BOOK, AB, "a"):
            with self.assertRaises(TypeError):
                value in BOOK
            with self.assertRaises(TypeError):
                value not in BOOK


class AddingTest(Refusals):
    def test_at_the_end(self):
        self.assertEqual(Book(AB).adding(ONE), Book(AB, [ONE]))
        self.assertEqual(Book(AB, [ONE, TWO]).adding(THREE), BOOK)
        self.assertEqual(Book(AB, [ONE]).adding(claim=ONE).facts, (ONE, ONE))

    def test_up_to_twelve(self):
        book = Book(ABC)
        for number, claim in enumerate(some_claims(ABC)[:12]):
            self.refused(BadFacts, "number", number, book.adding, None)
            before = book.facts
            book = book.adding(claim)
            self.assertEqual(book.facts, before + (claim,))
        self.refused(BadFacts, "number", None, book.adding, claim)
        self.refused(BadFacts, "number", 12, book.adding, None)
        self.assertEqual(len(book), 12)

    def test_what_is_no_claim(self):
        for value in NO_CLAIMS:
            self.refused(BadFacts, "number", 3, BOOK.adding, value)
            self.refused(BadFacts, "number", 0, Book(AB).adding, claim=value)
            self.refused(BadFacts, "number", 12, Book(AB, [ONE] * 12).adding, value)


class OnlyTest(Refusals):
    def test_ascending_numbers(self):
        facts = some_claims(ABC)[:5]
        book = Book(ABC, facts)
        for many in range(6):
            for numbers in combinations(range(5), many):
                self.assertEqual(book.only(numbers), Book(ABC, [facts[number] for number in numbers]))
        self.assertEqual(book.only(numbers=()), Book(ABC))
        self.assertEqual(Book(AB).only(()), Book(AB))
        self.assertEqual(Book(AB, [ONE] * 12).only(tuple(range(12))), Book(AB, [ONE] * 12))

    def test_what_is_no_such_tuple(self):
        for value in [None, True, False, 0, 1, "", "0", b"0", [], [0], [0, 1], {}, {0}, {0: 1}, range(2), len, Strange(), Echo(), BOOK,
                      (3,), (-1,), (0, 3), (-1, 0), (1, 0), (0, 0), (0, 1, 1), (2, 1), (0, 2, 1), (True,), (False,), (0, True),
                      (False, 1), (None,), ("0",), (0, "1"), ((0,),), (0, (1,)), ([0],), (0, [1]), (Strange(),), (Echo(),),
                      (0, Echo()), (0, 1, 2, 3), (10 ** 999,), ((),)]:
            self.refused(BadNumber, "value", value, BOOK.only, value)
        for value in ((0,), (-1,), [], None):
            self.refused(BadNumber, "value", value, Book(AB).only, numbers=value)


class KeepsTest(unittest.TestCase):
    def test_by_the_words_of_the_document(self):
        for things in THINGS + (WORDS,):
            claims = some_claims(things)
            books = [Book(things, claims[at::7][:12]) for at in range(7)] + [Book(things, [claim]) for claim in claims[::4]]
            families = some_families(things, 41)
            for family in families[::5] if len(things) == 4 else families:
                for book in books:
                    self.assertIs(book.keeps(family), all(truth(family, fact) for fact in book.facts))

    def test_ordinary(self):
        self.assertIs(BOOK.keeps(Family(AB, (0, 1, 1, 1))), True)
        self.assertIs(BOOK.keeps(Family(AB, (0, 1, 1, 0))), True)
        self.assertIs(BOOK.keeps(Family(AB, (0, 1, 2, 1))), False)
        self.assertIs(BOOK.keeps(family=Family(AB, (0, 0, 1, 1))), False)

    def test_without_facts(self):
        for family in all_families(ABC):
            self.assertIs(Book(ABC).keeps(family), True)
            self.assertIs(Book(ABC, [("some", ())]).keeps(family), False)

    def test_families_on_other_things(self):
        for things in (A, ("b",), ("a", "c"), ABC, ABCDE, ("aa", "b")):
            for family in all_families(things)[::50]:
                self.assertIs(Book(AB).keeps(family), False)

    def test_values_of_every_kind(self):
        for value in NOTHING_KNOWN + [(), AB, (0, 1, 1, 1), Echo(), BOOK, Book(AB)]:
            if isinstance(value, Family):
                continue
            self.assertIs(BOOK.keeps(value), False)
            self.assertIs(Book(AB).keeps(value), False)


class UnchangedTest(unittest.TestCase):
    def test_nothing_changes_a_book(self):
        book = Book(AB, [ONE, TWO, THREE])
        book.adding(ONE), book.only((1,)), book.keeps(Family(AB, (0, 1, 1, 1))), book[0], len(book), book == BOOK
        self.assertEqual((book.things, book.facts), (AB, (ONE, TWO, THREE)))
        self.assertEqual(book.adding(ONE), book.adding(ONE))
        self.assertEqual(book.only((0, 2)), book.only((0, 2)))


if __name__ == "__main__":
    unittest.main()
