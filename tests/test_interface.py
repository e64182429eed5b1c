"""The whole interface: its names, their parameters, and what is promised of all calls together."""

import importlib
import inspect
import unittest
from copy import deepcopy

from drawn import drawn_books
from plain import A, AB, ABC, ABCD, OPERATORS, Strange

from standlots import best, bits, claims, facts, families, lots, makers, pairs, questions, texts, trees, verdicts, yard
from standlots.books import Book
from standlots.claims import can_stand
from standlots.errors import Quarrel, StandError, TooMany
from standlots.families import Family
from standlots.yard import Yard

# For each module its functions and what they are passed, a default behind "=".
FUNCTIONS = {
    "lots": "need_things(thing) is_lot(things,thing) all_lots(things) joined(one,other) without(one,other) rules(things)",
    "families": "family_of(things,lots) all_families(things)",
    "makers": "of_frame(ties) of_rows(rows,prime) of_hands(things,hands)",
    "pairs": "common(one,other) check_common(one,other,paper) parting(family) check_parting(family,paper)"
             " picked(family,weights) best_lots(family,weights)",
    "claims": "need_claim(things,thing) holds(family,claim) can_stand(things,lot) adds_nothing(things,lot,thing)",
    "trees": "first_table(things) narrowed(things,table) judged(table,claim) is_quarrel(book,thing) shows(book,claim,thing)",
    "verdicts": "possible(book) verdict(book,claim) follows(book,claim) check(book,claim,paper)",
    "bits": "set_of(things,claim) left(book) families_in(things,number) follows_by_bits(book,claim)",
    "best": "surely_best(book,weights) maybe_best(book,weights) surely_worth(book,weights)",
    "questions": "next_question(book) fewest(book,claim) plan(book,claim) is_plan(book,claim,thing)",
    "facts": "needless(book) least_facts(book,claim) lean(book) alike(one,other) parted(one,other)",
    "yard": "tried(yard,function)",
    "texts": "claim_text(things,claim) read_claim(things,text) book_text(book) read_book(text) family_text(family)"
             " read_family(things,text)",
}
# For each class its methods and what they are passed.
CLASSES = {
    ("families", "Family"): "__init__(things,counts) __getitem__(_) __len__() __eq__(_) stands(lot) bases() rings() hull(lot) turned()"
                            " rest(lot) behind(lot) at_most(number) __or__(_) __add__(_)",
    ("books", "Book"): "__init__(things,facts=()) __len__() __getitem__(_) __eq__(_) adding(claim) only(numbers) keeps(family)",
    ("yard", "Yard"): "__init__(book) __len__() many() answer(lot,stands) learn(claim) undo(many=1) surely(lot) ask() __eq__(_) trial()",
}
CONSTANTS = (("lots", "MOST_THINGS", 5), ("books", "MOST_FACTS", 12))


def signature(function):
    """The parameters of a function as a text, those of a method without the first one; of operators "_"."""
    words = []
    for parameter in inspect.signature(function).parameters.values():
        assert parameter.kind is inspect.Parameter.POSITIONAL_OR_KEYWORD
        words.append(parameter.name)
        if parameter.default is not inspect.Parameter.empty:
            words[-1] += f"={parameter.default!r}"
    return words


class NamesTest(unittest.TestCase):
    def test_functions(self):
        for name, rows in FUNCTIONS.items():
            module = importlib.import_module("standlots." + name)
            for row in rows.split():
                word, parameters = row[:-1].split("(")
                function = getattr(module, word)
                self.assertTrue(inspect.isfunction(function), word)
                self.assertEqual(function.__module__, "standlots." + name)
                self.assertEqual(signature(function), parameters.split(","), word)

    def test_classes(self):
        for (name, word), rows in CLASSES.items():
            made = getattr(importlib.import_module("standlots." + name), word)
            self.assertEqual((made.__module__, made.__bases__), ("standlots." + name, (object,)))
            for row in rows.split():
                method, parameters = row[:-1].split("(", 1)
                self.assertTrue(inspect.isfunction(vars(made)[method]), method)
                wanted = parameters.split(",") if parameters else []
                told = signature(vars(made)[method])[1:]
                self.assertEqual(["_"] * len(told) if parameters == "_" else told, wanted, method)
        self.assertIsInstance(vars(Yard)["book"], property)

    def test_constants(self):
        for name, word, value in CONSTANTS:
            self.assertEqual(getattr(importlib.import_module("standlots." + name), word), value)


BOOK = Book(ABC, [can_stand(ABC, A), ("not", can_stand(ABC, AB)), can_stand(ABC, A)])
OTHER = Book(ABC, [can_stand(ABC, ("c",))])
QUARREL = Book(ABC, [can_stand(ABC, AB), ("not", can_stand(ABC, A))])
CLAIM = ("some", (can_stand(ABC, ("b",)), can_stand(ABC, ("c",))))
RING = Family(ABC, (0, 1, 2, 2, 2, 1, 2, 1))


def learnt():
    made = Yard(BOOK)
    made.learn(CLAIM)
    return made


def calls():
    """Many calls, all arguments by name, each with lists and dicts of its own."""
    table = {lot: (0, len(lot)) for lot in lots.all_lots(ABC)}
    table[AB] = (0, 1)
    return [
        (lots.need_things, {"thing": ABC}), (lots.is_lot, {"thing": A, "things": ABC}), (lots.all_lots, {"things": ABC}),
        (lots.joined, {"other": AB, "one": ("c",)}), (lots.without, {"other": A, "one": AB}), (lots.rules, {"things": ABC}),
        (families.family_of, {"lots": [(), A], "things": AB}), (families.all_families, {"things": ABC}),
        (Family, {"counts": [0, 1, 1, 1], "things": AB}), (RING.stands, {"lot": AB}), (RING.hull, {"lot": AB}), (RING.turned, {}),
        (RING.rest, {"lot": A}), (RING.behind, {"lot": A}), (RING.at_most, {"number": 1}), (RING.bases, {}), (RING.rings, {}),
        (makers.of_frame, {"ties": [("a", 1, 2), ("b", 2, 1)]}), (makers.of_rows, {"prime": 2, "rows": [("a", (1, 0)), ("b", (1, 1))]}),
        (makers.of_hands, {"hands": [A, AB], "things": AB}), (pairs.common, {"other": RING, "one": RING}),
        (pairs.check_common, {"paper": (AB, ABC), "other": RING, "one": RING}), (pairs.parting, {"family": RING}),
        (pairs.check_parting, {"paper": ((A, ("b", "c")), ABC), "family": RING}), (pairs.picked, {"weights": (1, 2, 3), "family": RING}),
        (pairs.best_lots, {"weights": (1, 2, 2), "family": RING}), (claims.need_claim, {"thing": CLAIM, "things": ABC}),
        (claims.holds, {"claim": CLAIM, "family": RING}), (claims.can_stand, {"lot": A, "things": ABC}),
        (claims.adds_nothing, {"thing": "b", "lot": A, "things": ABC}), (Book, {"facts": [CLAIM], "things": ABC}),
        (BOOK.adding, {"claim": CLAIM}), (BOOK.only, {"numbers": (0, 2)}), (BOOK.keeps, {"family": RING}),
        (trees.first_table, {"things": ABC}), (trees.narrowed, {"table": table, "things": ABC}),
        (trees.judged, {"claim": CLAIM, "table": table}), (trees.is_quarrel, {"thing": (A, 0, (), ()), "book": QUARREL}),
        (trees.shows, {"thing": (), "claim": CLAIM, "book": BOOK}), (verdicts.possible, {"book": BOOK}),
        (verdicts.possible, {"book": QUARREL}), (verdicts.verdict, {"claim": CLAIM, "book": BOOK}),
        (verdicts.verdict, {"claim": BOOK[0], "book": BOOK}), (verdicts.verdict, {"claim": CLAIM, "book": QUARREL}),
        (verdicts.follows, {"claim": CLAIM, "book": BOOK}), (verdicts.check, {"paper": ("tree", ()), "claim": ("all", ()), "book": BOOK}),
        (verdicts.check, {"paper": ("tree", []), "claim": CLAIM, "book": BOOK}), (bits.set_of, {"claim": CLAIM, "things": ABC}),
        (bits.left, {"book": BOOK}), (bits.families_in, {"number": 9, "things": ABC}), (bits.families_in, {"number": -1, "things": ABC}),
        (bits.follows_by_bits, {"claim": CLAIM, "book": BOOK}), (best.surely_best, {"weights": (1, 2, 3), "book": BOOK}),
        (best.maybe_best, {"weights": (1, 2, 3), "book": BOOK}), (best.surely_worth, {"weights": (1, 2, 3), "book": BOOK}),
        (questions.next_question, {"book": BOOK}), (questions.fewest, {"claim": CLAIM, "book": BOOK}),
        (questions.fewest, {"claim": ("all", ()), "book": Book(ABCD)}), (questions.plan, {"claim": CLAIM, "book": BOOK}),
        (questions.is_plan, {"thing": (), "claim": CLAIM, "book": BOOK}), (facts.needless, {"book": BOOK}),
        (facts.least_facts, {"claim": BOOK[0], "book": BOOK}), (facts.lean, {"book": BOOK}), (facts.alike, {"other": OTHER, "one": BOOK}),
        (facts.parted, {"other": OTHER, "one": BOOK}), (facts.parted, {"other": QUARREL, "one": OTHER}), (yard.Yard, {"book": BOOK}),
        (learnt().answer, {"stands": True, "lot": ("c",)}), (learnt().learn, {"claim": CLAIM}), (learnt().undo, {"many": 1}),
        (learnt().undo, {}), (learnt().surely, {"lot": ("c",)}), (learnt().ask, {}), (learnt().many, {}),
        (yard.tried, {"function": lambda made: made.many(), "yard": learnt()}), (texts.claim_text, {"claim": CLAIM, "things": ABC}),
        (texts.read_claim, {"text": "a - 0 >= 1", "things": ABC}), (texts.book_text, {"book": BOOK}),
        (texts.read_book, {"text": "things a b\nall[ ]"}), (texts.family_text, {"family": RING}),
        (texts.read_family, {"text": "a\nb", "things": AB}), (texts.read_family, {"text": "a\nb\n", "things": AB}),
    ]


def told(function, arguments):
    """What a call returns, or the error that it raises, as a value that can be compared."""
    try:
        found = function(**arguments)
    except (StandError, Quarrel, TooMany) as error:
        return type(error).__name__, vars(error)
    if isinstance(found, list):
        return [(family.things, family.counts) for family in found]
    return found


class CallsTest(unittest.TestCase):
    def test_by_name_and_by_position(self):
        for (function, arguments), (again, _) in zip(calls(), calls()):
            named = told(function, arguments)
            made = inspect.signature(again)
            placed = [arguments[word] for word in made.parameters if word in arguments]
            try:
                found = again(*placed)
            except (StandError, Quarrel, TooMany) as error:
                found = type(error).__name__, vars(error)
            if isinstance(found, list):
                found = [(family.things, family.counts) for family in found]
            self.assertEqual(found, named, function.__name__)

    def test_equal_calls_whatever_was_asked_in_between(self):
        first = [told(function, arguments) for function, arguments in calls()]
        for book in drawn_books(ABC, 4, 131):
            told(verdicts.possible, {"book": book})
        backward = [told(function, arguments) for function, arguments in calls()[::-1]][::-1]
        self.assertEqual(first, backward)

    def test_nothing_that_is_passed_is_modified(self):
        for function, arguments in calls():
            # Not functions and yards, which are changed by what is passed them.
            kept = {word: value for word, value in arguments.items() if word not in ("function", "yard")}
            before = deepcopy(kept)
            told(function, arguments)
            self.assertEqual(kept, before, function.__name__)
        self.assertEqual((BOOK.things, len(BOOK), RING.counts), (ABC, 3, (0, 1, 2, 2, 2, 1, 2, 1)))

    def test_whatever_is_done_with_what_was_handed_out(self):
        first = [told(function, arguments) for function, arguments in calls()]
        for function, arguments in calls():
            try:
                found = function(**arguments)
            except (StandError, Quarrel, TooMany):
                continue
            if isinstance(found, (list, dict)):
                found.clear()
        self.assertEqual([told(function, arguments) for function, arguments in calls()], first)

    def test_later_changes_to_what_was_passed(self):
        for function, arguments in calls():
            passed = deepcopy(arguments)
            found = told(function, passed)
            before = deepcopy(found)
            for value in passed.values():
                if isinstance(value, (list, dict)):
                    value.clear()
            self.assertEqual(found, before, function.__name__)


class OperatorsTest(unittest.TestCase):
    VALUES = (RING, BOOK, Yard(BOOK))

    def test_between_values_of_unlike_classes(self):
        for one in self.VALUES:
            for other in self.VALUES + (None, 0, "a", (), [], {}, ABC, Strange()):
                if isinstance(one, Family) and isinstance(other, Family):
                    continue
                for operator in OPERATORS:
                    for left, right in ((one, other), (other, one)):
                        with self.assertRaises(TypeError):
                            operator(left, right)
                self.assertIs(one == other, one is other)
                self.assertIs(one != other, one is not other)
                self.assertIs(other == one, one is other)

    def test_iterating_and_in(self):
        for value in self.VALUES:
            for call in (lambda: iter(value), lambda: list(value), lambda: A in value, lambda: 0 not in value, lambda: [*value]):
                with self.assertRaises(TypeError):
                    call()


class NothingIsReturnedTest(unittest.TestCase):
    def test_what_changes_a_yard_returns_none(self):
        made = Yard(Book(AB))
        self.assertIsNone(made.answer(A, True))
        self.assertIsNone(made.learn(("all", ())))
        self.assertIsNone(made.undo())
        self.assertIsNone(made.undo(many=1))


if __name__ == "__main__":
    unittest.main()
