"""Trees: which values are trees, what they show, and which are quarrels."""

import unittest
from random import Random

from claim_words import chain, opposite, some_claims
from drawn import draw_claim, drawn_books, drawn_tree, telling_claim
from plain import A, AB, ABC, ABCD, ABCDE, NOTHING_KNOWN, THINGS, WORDS, Echo, Refusals, Strange, nested, otherwise, parts_of
from tree_words import keeping, quarrel_words, shows_words

from standlots.books import Book
from standlots.claims import adds_nothing, can_stand
from standlots.errors import BadClaim
from standlots.families import Family, all_families
from standlots.trees import is_quarrel, shows
from standlots.verdicts import possible, verdict

TRUE = ("all", ())
FALSE = ("some", ())
B = ("b",)
# Just one of the two can stand.
EITHER = Book(AB, [("not", can_stand(AB, AB)), ("some", (can_stand(AB, A), can_stand(AB, B)))])
# Both stand, though not together, and b adds nothing beside a; so a adds nothing beside b.
HANGING = Book(AB, [can_stand(AB, A), can_stand(AB, B), adds_nothing(AB, A, "b")])
QUARREL = Book(AB, [can_stand(AB, AB), ("not", can_stand(AB, A))])
NO_TREES = NOTHING_KNOWN + [
    Echo(), (Echo(),), (Echo(),) * 4, [], {}, (A,), (A, 0), (A, 0, ()), (A, 0, (), (), ()), [A, 0, (), ()], (A, 0, [], ()),
    (A, 0, (), []), (A, True, (), ()), (A, None, (), ()), (A, "0", (), ()), (A, False, (), ()), (A, (0,), (), ()),
    ("a", 0, (), ()), (["a"], 0, (), ()), (("c",), 0, (), ()), (("b", "a"), 0, (), ()), (("a", "a"), 0, (), ()),
    (0, A, (), ()), ((), (), (), ()), (A, 0, None, ()), (A, 0, (), None), (A, 0, (), ((),)), ("tree", ()), ((), ((), ())),
    (A, 0, Echo(), ()), (Echo(), 0, (), ()), (A, Echo(), (), ()), (Strange(), 0, (), ()), nested(50),
]


def with_ends(many, lots=((), A, AB, B), number=0):
    """A tree with so many ends that goes no deeper than it must."""
    if many == 1:
        return ()
    half = many // 2
    return (lots[many % len(lots)], number, with_ends(half, lots, number), with_ends(many - half, lots, number))


def within(cases, side, lot=A, number=0):
    """So many cases one within another, all on the first or on the second side, or on both by turns."""
    tree = ()
    for at in range(cases):
        tree = (lot, number, (), tree) if (side + at) // 2 % 2 else (lot, number, tree, ())
    return tree


class TreesCase(Refusals):
    def told(self, book, claim, value):
        """shows and is_quarrel tell just what the words of the document do."""
        expected = shows_words(book, claim, value)
        self.assertIs(shows(book, claim, value), expected)
        self.assertIs(is_quarrel(book, value), quarrel_words(book, value))
        return expected


class EndTest(TreesCase):
    def test_an_end_alone(self):
        for things in THINGS + (WORDS,):
            for claim in some_claims(things):
                self.told(Book(things), claim, ())
                self.told(Book(things, [claim]), FALSE, ())
                self.told(Book(things, [opposite(claim)]), claim, ())

    def test_ordinary(self):
        self.assertIs(shows(Book(AB), TRUE, ()), True)
        self.assertIs(shows(Book(AB), FALSE, ()), False)
        self.assertIs(shows(Book(AB), can_stand(AB, A), ()), False)
        self.assertIs(shows(Book(AB), can_stand(AB, ()), ()), True)
        self.assertIs(shows(Book(AB, [FALSE]), FALSE, ()), True)
        self.assertIs(is_quarrel(Book(AB, [FALSE]), ()), True)
        self.assertIs(is_quarrel(Book(AB), ()), False)
        self.assertIs(is_quarrel(book=Book(AB, [TRUE, FALSE]), thing=()), True)
        # At the first table no count of a lot is above how many things it has.
        self.assertIs(shows(Book(AB), ("not", ("atleast", AB, (), 3)), ()), True)


class CasesTest(TreesCase):
    def test_some_trees(self):
        claim = ("atleast", B, AB, 0)
        self.assertIs(shows(HANGING, claim, ()), False)
        self.assertIs(shows(HANGING, claim, (AB, 1, (), ())), False)
        tree = (A, 0, (), (B, 0, (), (AB, 1, (), ())))
        self.assertIs(self.told(HANGING, claim, tree), True)
        self.assertIs(shows(thing=tree, claim=claim, book=HANGING), True)
        self.assertIs(is_quarrel(HANGING, tree), False)
        # In the first tree the count is at most the number, not less.
        self.assertIs(self.told(HANGING, claim, (A, 1, (), (B, 0, (), (AB, 1, (), ())))), False)
        self.assertIs(self.told(HANGING, claim, (AB, 1, (), (A, 0, (), ()))), False)
        # a need not be asked for.
        self.assertIs(self.told(HANGING, claim, (B, 0, (), (AB, 1, (), ()))), True)

    def test_a_quarrel(self):
        self.assertIs(is_quarrel(QUARREL, ()), False)
        self.assertIs(is_quarrel(QUARREL, (A, 0, (), ())), True)
        self.assertIs(is_quarrel(QUARREL, (AB, 1, (), ())), True)
        self.assertIs(is_quarrel(QUARREL, (B, 0, (), ())), False)
        self.assertIs(is_quarrel(thing=(A, 0, (B, 0, (), ()), (AB, 1, (), ())), book=QUARREL), True)

    def test_a_claim_of_a_book_that_is_not_possible(self):
        for claim in some_claims(AB):
            self.assertIs(shows(QUARREL, claim, (A, 0, (), ())), True)
            self.told(QUARREL, claim, ())
        # What shows a claim need be no quarrel.
        self.assertIs(shows(QUARREL, can_stand(AB, B), (AB, 1, (B, 0, (), ()), ())), True)
        self.assertIs(is_quarrel(QUARREL, (B, 1, (), ())), False)

    def test_closed_is_more_than_shut(self):
        tree = (A, 0, (), ())
        self.assertIs(self.told(EITHER, ("some", (can_stand(AB, A), ("not", can_stand(AB, A)))), tree), True)
        self.assertIs(is_quarrel(EITHER, tree), False)

    def test_cases_of_all_lots_in_any_order(self):
        rng = Random(31)
        for things in (AB, ABC):
            for _ in range(3):
                lots = [(lot, number) for lot in parts_of(things) for number in range(len(lot))]
                rng.shuffle(lots)
                tree = ()
                for lot, number in lots if len(things) == 2 else lots[:7]:
                    tree = (lot, number, tree, tree)
                for claim in some_claims(things)[::2]:
                    for book in (Book(things), Book(things, [opposite(claim)]), Book(things, [claim])):
                        self.told(book, claim, tree)

    def test_where_all_stretches_are_single_numbers_everything_is_told(self):
        tree = ()
        for lot, number in ((AB, 1), (AB, 0), (B, 0), (A, 0)):
            tree = (lot, number, tree, tree)
        for claim in some_claims(AB):
            following = all(family in keeping(Book(AB, [claim])) for family in all_families(AB))
            self.assertIs(shows(Book(AB), claim, tree), following)
            self.assertIs(is_quarrel(Book(AB, [claim]), tree), keeping(Book(AB, [claim])) == [])

    def test_numbers_below_nought_and_above_all_counts(self):
        for number in (-1, -2, -(10 ** 999), 2, 3, 10 ** 999):
            for lot in ((), A, AB, B):
                # One side is empty, and the other one is the table as it was; below an empty one all are empty.
                for inner in ((), (A, 0, (), ()), (B, 7, (), (AB, -7, (), ()))):
                    for tree in ((lot, number, inner, ()), (lot, number, (), inner), (lot, number, inner, inner)):
                        self.told(QUARREL, FALSE, tree)
                        self.told(EITHER, can_stand(AB, A), tree)
        self.assertIs(is_quarrel(QUARREL, (AB, 2, (A, 0, (), ()), ())), True)
        self.assertIs(is_quarrel(QUARREL, (AB, -1, (), (A, 0, (), ()))), True)
        self.assertIs(is_quarrel(QUARREL, (AB, 2, (), (A, 0, (), ()))), False)
        self.assertIs(is_quarrel(QUARREL, (AB, -1, (A, 0, (), ()), ())), False)
        self.assertIs(is_quarrel(QUARREL, ((), 0, (A, 0, (), ()), ())), True)

    def test_drawn_trees(self):
        rng = Random(32)
        for things, many in zip(THINGS, (60, 60, 40, 20, 4)):
            shown = 0
            for book in drawn_books(things, many, 33):
                claim = telling_claim(rng, things, keeping(book)[:6], all_families(things))
                for cases in (0, 1, 2, 3, 5, 9):
                    shown += self.told(book, claim, drawn_tree(rng, things, cases))
            self.assertTrue(shown > many // 2)


class GrownTest(TreesCase):
    """Trees that hold, and what is made of them."""

    def papers(self, things, many, seed):
        rng = Random(seed)
        found = []
        for book in drawn_books(things, many, seed):
            if keeping(book) == []:
                found.append((book, FALSE, possible(book)[1]))
            else:
                claim = telling_claim(rng, things, keeping(book)[:6], all_families(things))
                paper = verdict(book, claim)
                if paper[0] == "tree":
                    found.append((book, claim, paper[1]))
        return found

    def test_with_more_cases_about_them(self):
        rng = Random(34)
        for things, many in zip(THINGS, (30, 40, 30, 20, 4)):
            for book, claim, tree in self.papers(things, many, 35):
                self.assertIs(self.told(book, claim, tree), True)
                for lot in rng.sample(parts_of(things), 2):
                    for number in (-1, 0, len(lot)):
                        self.assertIs(self.told(book, claim, (lot, number, tree, tree)), True)
                        self.told(book, claim, (lot, number, (), tree))
                        self.told(book, claim, (lot, number, tree, ()))
                if tree != ():
                    lot, number, first, second = tree
                    for other in ((lot, number, second, first), (lot, number + 1, first, second), first, second,
                                  (lot, number - 1, first, second), (lot, number, (), ())):
                        self.told(book, claim, other)

    def test_one_thing_otherwise_at_any_depth(self):
        for things, least in ((AB, 2), (ABC, 2), (ABCD, 3)):
            papers = [paper for paper in self.papers(things, 40, 36) if str(paper[2]).count("()") > least]
            for book, claim, tree in papers[:3]:
                for value in otherwise(tree):
                    self.told(book, claim, value)

    def test_with_a_lot_exchanged(self):
        for things in (AB, ABC):
            for book, claim, tree in self.papers(things, 25, 37):
                for lot in parts_of(things) + [("z",)]:
                    for number in range(-1, 4):
                        if tree != ():
                            self.told(book, claim, (lot, number) + tree[2:])

    def test_of_another_claim_or_book(self):
        papers = self.papers(ABC, 30, 38)
        for book, claim, tree in papers:
            for other, another, _ in papers[::4]:
                self.told(other, claim, tree)
                self.told(book, another, tree)


class ValuesTest(Refusals):
    def test_values_of_every_kind(self):
        for value in NO_TREES:
            if value == () and type(value) is tuple:
                continue
            for book, claim in ((Book(AB), TRUE), (Book(AB, [FALSE]), FALSE), (QUARREL, can_stand(AB, A))):
                self.assertIs(shows(book, claim, value), False)
                self.assertIs(is_quarrel(book, value), False)
            # Also where what is closed already stands above it.
            self.assertIs(shows(Book(AB), TRUE, (A, 0, (), value)), False)
            self.assertIs(is_quarrel(QUARREL, (A, 0, (A, 0, (), value), ())), False)
            self.assertIs(is_quarrel(Book(AB, [FALSE]), (A, 5, (), (A, 0, value, ()))), False)

    def test_trees_of_other_things(self):
        self.assertIs(shows(Book(AB), TRUE, (("c",), 0, (), ())), False)
        self.assertIs(shows(Book(ABC), TRUE, (("c",), 0, (), ())), True)
        self.assertIs(shows(Book(("z",)), TRUE, (A, 0, (), ())), False)
        self.assertIs(is_quarrel(Book(WORDS, [FALSE]), (("ab", "z"), 0, (), ())), True)

    def test_what_is_no_claim(self):
        deep = chain(can_stand(AB, A), 6)
        for value in NOTHING_KNOWN + [(), deep, ("all", (TRUE,) * 60), ("atleast", A, (), 10), Echo(), ("not", FALSE, FALSE)]:
            for book in (Book(AB), QUARREL):
                for tree in ((), (A, 0, (), ()), None, 7):
                    self.refused(BadClaim, "value", value, shows, book, value, tree)
        self.refused(BadClaim, "value", None, shows, claim=None, book=QUARREL, thing=())
        self.refused(BadClaim, "value", can_stand(ABC, ("c",)), shows, Book(AB), can_stand(ABC, ("c",)), ())


class SizesTest(unittest.TestCase):
    def test_ends(self):
        for many, expected in ((19999, True), (20000, True), (20001, False), (20002, False), (40000, False)):
            tree = with_ends(many)
            self.assertIs(shows(Book(AB), TRUE, tree), expected)
            self.assertIs(is_quarrel(Book(AB, [FALSE]), tree), expected)
            self.assertIs(shows(Book(AB), FALSE, tree), False)

    def test_ends_where_most_tables_are_empty(self):
        for many, expected in ((19999, True), (20000, False), (20001, False)):
            self.assertIs(is_quarrel(QUARREL, (A, 0, (), with_ends(many))), expected)
            self.assertIs(is_quarrel(QUARREL, (AB, 1, with_ends(many), ())), expected)
        # Nothing is told below a number that cuts nothing, but at one side.
        tree = with_ends(500, number=5)
        self.assertIs(is_quarrel(QUARREL, tree), False)
        self.assertIs(shows(Book(AB), ("atleast", AB, (), 1), tree), False)

    def test_cases_one_within_another(self):
        for cases, expected in ((1, True), (98, True), (99, True), (100, False), (101, False), (150, False)):
            for side in range(4):
                for number in (-1, 0, 1):
                    tree = within(cases, side, number=number)
                    self.assertIs(shows(Book(AB), TRUE, tree), expected)
                    self.assertIs(is_quarrel(Book(AB, [FALSE]), tree), expected)
                    self.assertIs(shows(Book(AB), TRUE, (AB, 0, tree, ())), expected and cases < 99)

    def test_a_quarrel_behind_many_cases(self):
        for cases in range(90, 105):
            tree = (A, 0, (), ())
            for _ in range(cases - 1):
                tree = (AB, 2, tree, ())
            self.assertIs(is_quarrel(QUARREL, tree), cases <= 99)
            self.assertIs(shows(QUARREL, FALSE, tree), cases <= 99)

    def test_few_values_that_stand_in_one_very_often(self):
        tree = ()
        for cases in range(1, 99):
            tree = (A, 0, tree, tree)
            if cases in (1, 5, 14, 15, 20, 60, 98):
                self.assertIs(shows(Book(AB), TRUE, tree), cases <= 14)
        self.assertIs(is_quarrel(QUARREL, (A, 0, tree, ())), False)


class UnchangedTest(unittest.TestCase):
    def test_equal_calls_return_equal_results(self):
        rng = Random(39)
        tree = (A, 0, (), (B, 0, (), (AB, 1, (), ())))
        claim = ("atleast", B, AB, 0)
        for _ in range(5):
            shows(Book(ABCDE), draw_claim(rng, ABCDE), drawn_tree(rng, ABCDE, 3))
            self.assertIs(shows(HANGING, claim, tree), True)
            self.assertIs(is_quarrel(QUARREL, (A, 0, (), ())), True)
        self.assertEqual(HANGING, Book(AB, [can_stand(AB, A), can_stand(AB, B), adds_nothing(AB, A, "b")]))
        self.assertEqual(Family(AB, (0, 1, 1, 1)).counts, (0, 1, 1, 1))


if __name__ == "__main__":
    unittest.main()
