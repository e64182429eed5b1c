"""Which books are possible, what follows from them, and papers on both."""

import unittest
from random import Random
from time import perf_counter

from claim_words import chain, many, opposite, some_claims, truth
from drawn import draw_claim, drawn_books, drawn_tree, telling_claim
from plain import A, AB, ABC, ABCD, ABCDE, NOTHING_KNOWN, THINGS, WORDS, Echo, Refusals, Strange, otherwise, parts_of
from tree_words import is_tree, keeping, quarrel_words, shows_words

from standlots.books import Book
from standlots.claims import adds_nothing, can_stand
from standlots.errors import BadClaim, BadPaper, Quarrel
from standlots.families import Family, all_families
from standlots.trees import is_quarrel, shows
from standlots.verdicts import check, follows, possible, verdict

TRUE = ("all", ())
FALSE = ("some", ())
B = ("b",)
PAIR = Family(AB, (0, 1, 1, 1))
# PAIR alone is left.
ONE_LEFT = Book(AB, [can_stand(AB, A), can_stand(AB, B), ("not", can_stand(AB, AB))])
QUARREL = Book(AB, [can_stand(AB, AB), ("not", can_stand(AB, A))])
# All facts are true at a table that narrowing leaves as it is, though no family is within it.
HOLLOW = Book(ABCD, [("not", can_stand(ABCD, ("c",))), ("not", ("atleast", ("a", "b", "d"), (), 2)),
                     ("atleast", ABCD, (), 2)])
NO_CLAIMS = NOTHING_KNOWN + [
    (), Echo(), (Echo(), ()), ("atleast", A, (), 10), ("atleast", A, (), True), ("atleast", ("c",), (), 0), ("all", [TRUE]),
    ("not", TRUE, TRUE), ("all", (TRUE,) * 60), chain(TRUE, 6), ("none", ()), ("not", ()),
]
FORMS = NOTHING_KNOWN + [
    (), Echo(), (Echo(), ()), (Echo(), PAIR), ("tree",), ("family",), ("tree", (), ()), ("family", PAIR, PAIR), ["tree", ()],
    ["family", PAIR], ("Tree", ()), ("form", ()), ("quarrel", ()), ("families", PAIR), ("", ()), (b"tree", ()), (None, ()),
    ((), "tree"), (PAIR, "family"), (("tree",), ()), (0, ()), (True, ()), ("tree ", ()), "tree", "family", ("t", "r"), {},
    {"tree": ()}, PAIR, (["tree"], ()),
]


def left_words(book, families):
    return [family for family in families if all(truth(family, fact) for fact in book.facts)]


class VerdictCase(Refusals):
    def quarrels(self, book, function, /, *rest, **more):
        """The call raises Quarrel with a tree that is a quarrel of the book."""
        with self.assertRaises(Quarrel) as caught:
            function(*rest, **more)
        self.assertIs(type(caught.exception), Quarrel)
        self.assertIs(is_quarrel(book, caught.exception.tree), True)
        return caught.exception.tree


class PossibleTest(VerdictCase):
    def holds(self, book, families):
        paper = possible(book)
        self.assertEqual((type(paper), len(paper), type(paper[0])), (tuple, 2, str))
        word, told = paper
        self.assertEqual(word, "family" if left_words(book, families) else "quarrel")
        if word == "family":
            self.assertIs(type(told), Family)
            self.assertIn(told, left_words(book, families))
            self.assertIs(book.keeps(told), True)
        else:
            self.assertTrue(quarrel_words(book, told))
            self.assertIs(is_quarrel(book, told), True)
            self.assertFalse(is_quarrel(Book(book.things), told))
        self.assertEqual(possible(book), paper)
        return word

    def test_drawn_books(self):
        for things, most in zip(THINGS, (60, 80, 80, 60, 12)):
            families = all_families(things)
            words = [self.holds(book, families) for book in drawn_books(things, most, 41)]
            self.assertEqual(set(words), {"family", "quarrel"})

    def test_one_fact_of_each_kind(self):
        for things in THINGS[:4] + (WORDS,):
            families = all_families(things)
            claims = some_claims(things)
            for claim in claims if len(things) < 5 else claims[::9]:
                self.holds(Book(things, [claim]), families)
                self.holds(Book(things, [opposite(claim)]), families)

    def test_a_claim_and_its_opposite(self):
        for things in THINGS:
            for claim in some_claims(things)[::2 if len(things) < 5 else 7]:
                for facts in ([claim, opposite(claim)], [opposite(claim), TRUE, claim]):
                    self.assertEqual(self.holds(Book(things, facts), ()), "quarrel")

    def test_without_facts(self):
        for things in THINGS + (WORDS,):
            self.assertEqual(self.holds(Book(things), all_families(things)), "family")

    def test_just_one_family(self):
        for things in THINGS[:4]:
            for family in all_families(things)[::3]:
                pins = tuple(("atleast", lot, (), count) for lot, count in zip(parts_of(things), family.counts))
                tops = tuple(("not", ("atleast", lot, (), count + 1)) for lot, count in zip(parts_of(things), family.counts))
                book = Book(things, [("all", pins), ("all", tops[::-1])])
                self.assertEqual(possible(book), ("family", family))
                for claim in (("not", ("all", pins)), opposite(tops[-1])):
                    self.assertEqual(self.holds(book.adding(claim), ()), "quarrel")

    def test_ordinary(self):
        self.assertEqual(possible(ONE_LEFT), ("family", PAIR))
        self.assertEqual(possible(book=QUARREL)[0], "quarrel")
        self.assertEqual(possible(Book(AB, [FALSE])), ("quarrel", ()))
        # There is no Quarrel, and nothing else is raised.
        self.assertEqual(possible(Book(ABCDE, [can_stand(ABCDE, ABCDE), ("not", can_stand(ABCDE, ("e",)))]))[0], "quarrel")

    def test_where_narrowing_does_not_see_it(self):
        tree = (("c",), 0, (("a", "b", "d"), 1, (ABCD, 1, (), ()), ()), ())
        self.assertIs(is_quarrel(HOLLOW, tree), False)
        self.assertEqual(self.holds(HOLLOW, all_families(ABCD)), "quarrel")
        self.assertEqual(self.holds(HOLLOW.only((0, 1)), all_families(ABCD)), "family")

    def test_the_greatest_books(self):
        rng = Random(42)
        for things in (ABC, ABCD):
            families = all_families(things)
            for hidden in (rng.sample(families, 2), rng.sample(families, 2), families[-1:], [], []):
                facts = []
                for _ in range(12):
                    claims = [telling_claim(rng, things, hidden, families) for _ in range(6)]
                    facts.append(("all", tuple(claim for claim in claims if many(claim) < 10)))
                self.holds(Book(things, facts), families)


class FollowsTest(VerdictCase):
    def holds(self, book, claim, left):
        """What is told of a claim, by the families left, of which there are some."""
        breaking = [family for family in left if not truth(family, claim)]
        paper = verdict(book, claim)
        self.assertEqual((type(paper), len(paper)), (tuple, 2))
        self.assertIs(follows(book, claim), breaking == [])
        if breaking:
            self.assertEqual(paper[0], "family")
            self.assertIs(type(paper[1]), Family)
            self.assertIn(paper[1], breaking)
        else:
            self.assertEqual(paper[0], "tree")
            self.assertTrue(is_tree(book.things, paper[1]))
            self.assertTrue(shows_words(book, claim, paper[1]))
            self.assertIs(shows(book, claim, paper[1]), True)
        self.assertEqual(check(book, claim, paper), paper[0])
        self.assertEqual(verdict(book, claim), paper)
        return paper[0]

    def test_drawn_claims_on_drawn_books(self):
        rng = Random(43)
        for things, most in zip(THINGS, (50, 60, 60, 40, 8)):
            families = all_families(things)
            words = []
            for book in drawn_books(things, most, 44, least_hidden=1):
                left = left_words(book, families)
                for claim in (draw_claim(rng, things), telling_claim(rng, things, left[:8], families), TRUE, FALSE):
                    words.append(self.holds(book, claim, left))
            self.assertEqual(set(words), {"tree", "family"})

    def test_claims_of_each_kind(self):
        for things in THINGS[:4] + (WORDS,):
            families = all_families(things)
            claims = some_claims(things)
            books = [Book(things), Book(things, [can_stand(things, things)]), Book(things, [("not", can_stand(things, things[:1]))])]
            for book in books:
                left = left_words(book, families)
                for claim in claims if len(things) < 5 else claims[::8]:
                    self.holds(book, claim, left)

    def test_facts_follow_and_their_opposites_do_not(self):
        for book in drawn_books(ABC, 20, 45, least_hidden=1):
            for fact in book.facts:
                self.assertIs(follows(book, fact), True)
                self.assertEqual(verdict(book, fact)[0], "tree")
                self.assertIs(follows(book, opposite(fact)), False)

    def test_ordinary(self):
        things = ABC
        book = Book(things, [can_stand(things, (thing,)) for thing in things]
                    + [("not", can_stand(things, AB)), ("not", can_stand(things, ("a", "c")))])
        claim = ("not", can_stand(things, ("b", "c")))
        self.assertIs(follows(book, claim), True)
        self.assertIs(follows(claim=opposite(claim), book=book), False)
        self.assertEqual(check(book, claim, verdict(book, claim)), "tree")
        self.assertEqual(verdict(claim=can_stand(things, ("b",)), book=Book(things))[0], "family")
        self.assertEqual(verdict(ONE_LEFT, can_stand(AB, AB)), ("family", PAIR))
        self.assertIs(follows(ONE_LEFT, adds_nothing(AB, A, "b")), True)

    def test_what_holds_of_all_families(self):
        # Of two lots of two things that meet in one, and that both can stand, ...: rules that no single bound tells.
        exchange = ("some", (("not", can_stand(ABCD, AB)), ("not", can_stand(ABCD, ("c",))), can_stand(ABCD, ("a", "c")),
                             can_stand(ABCD, ("b", "c"))))
        self.assertEqual(self.holds(Book(ABCD), exchange, all_families(ABCD)), "tree")
        self.assertEqual(self.holds(HOLLOW.only((0, 1)), opposite(HOLLOW[2]), keeping(HOLLOW.only((0, 1)))), "tree")

    def test_what_is_no_claim_comes_first(self):
        for value in NO_CLAIMS:
            for book in (ONE_LEFT, QUARREL, Book(AB)):
                self.refused(BadClaim, "value", value, verdict, book, value)
                self.refused(BadClaim, "value", value, follows, book, value)
                for paper in (("tree", ()), ("family", PAIR), None):
                    self.refused(BadClaim, "value", value, check, book, value, paper)

    def test_then_a_quarrel(self):
        for things, most in zip(THINGS, (20, 20, 20, 20, 6)):
            for book in drawn_books(things, most, 46):
                if keeping(book) == []:
                    for function in (verdict, follows):
                        tree = self.quarrels(book, function, book, TRUE)
                        self.assertTrue(quarrel_words(book, tree))
                        self.quarrels(book, function, claim=FALSE, book=book)
                    for paper in (("tree", ()), ("family", PAIR), None, ("tree", tree), 7, ("tree", None), ("family", None)):
                        self.quarrels(book, check, book, TRUE, paper)
        self.quarrels(HOLLOW, follows, HOLLOW, TRUE)


class CheckTest(VerdictCase):
    def told(self, book, claim, paper):
        """check tells just what the words of the document do."""
        if type(paper) is not tuple or len(paper) != 2 or type(paper[0]) is not str or paper[0] not in ("tree", "family"):
            self.refused(BadPaper, "place", "form", check, book, claim, paper)
            return
        word, told = paper
        if word == "tree":
            holding = shows_words(book, claim, told)
        else:
            holding = type(told) is Family and told in keeping(book) and not truth(told, claim)
        if holding:
            self.assertEqual(check(book, claim, paper), word)
        else:
            self.refused(BadPaper, "place", word, check, book, claim, paper)

    def test_values_of_every_kind(self):
        for value in FORMS:
            self.refused(BadPaper, "place", "form", check, ONE_LEFT, TRUE, value)
            self.refused(BadPaper, "place", "form", check, Book(AB), can_stand(AB, A), paper=value)

    def test_trees_of_every_kind(self):
        for value in NOTHING_KNOWN + [Echo(), (Echo(),) * 4, [], PAIR, (A, 0, (), [])]:
            self.refused(BadPaper, "place", "tree", check, ONE_LEFT, TRUE, ("tree", value))

    def test_families_of_every_kind(self):
        for value in NOTHING_KNOWN + [(), Echo(), Strange(), (0, 1, 1, 1), AB, (AB, (0, 1, 1, 1)), ONE_LEFT, [PAIR], (PAIR,)]:
            self.refused(BadPaper, "place", "family", check, ONE_LEFT, can_stand(AB, AB), ("family", value))
        for things in (A, B, ABC, ("a", "c")):
            for family in all_families(things):
                self.refused(BadPaper, "place", "family", check, Book(AB), FALSE, ("family", family))

    def test_all_families(self):
        for things in (A, AB, ABC):
            for book in drawn_books(things, 12, 47, least_hidden=1):
                for claim in some_claims(things)[::3]:
                    for family in all_families(things):
                        self.told(book, claim, ("family", family))

    def test_one_thing_otherwise_at_any_depth(self):
        claim = ("not", can_stand(ABC, ("b", "c")))
        book = Book(ABC, [can_stand(ABC, (thing,)) for thing in ABC]
                    + [("not", can_stand(ABC, AB)), ("not", can_stand(ABC, ("a", "c")))])
        for paper in (verdict(book, claim), verdict(book, opposite(claim))):
            self.assertEqual(check(book, claim if paper[0] == "tree" else opposite(claim), paper), paper[0])
            for value in otherwise(paper):
                self.told(book, claim, value)
                self.told(book, opposite(claim), value)

    def test_papers_of_other_claims_and_books(self):
        rng = Random(48)
        for things in (AB, ABC, ABCD):
            families = all_families(things)
            papers = []
            for book in drawn_books(things, 9, 49, least_hidden=1):
                for claim in (telling_claim(rng, things, left_words(book, families)[:6], families), draw_claim(rng, things)):
                    papers.append((book, claim, verdict(book, claim)))
            for book, claim, paper in papers:
                for _, _, other in papers[::2]:
                    self.told(book, claim, other)
                self.told(book, claim, ("tree", drawn_tree(rng, things, 3)))
                self.told(book, claim, ("family", paper[1]))
                self.told(book, claim, ("tree", paper[1]))

    def test_there_is_always_just_one_sort(self):
        for book in drawn_books(ABC, 12, 50, least_hidden=1):
            for claim in some_claims(ABC)[::4]:
                word, told = verdict(book, claim)
                if word == "tree":
                    for family in all_families(ABC):
                        self.refused(BadPaper, "place", "family", check, book, claim, ("family", family))
                else:
                    self.refused(BadPaper, "place", "tree", check, book, claim, ("tree", possible(QUARREL)[1]))
        self.assertEqual(check(paper=("family", PAIR), claim=FALSE, book=ONE_LEFT), "family")


class UnchangedTest(unittest.TestCase):
    def test_equal_calls_return_equal_results(self):
        facts = [can_stand(AB, A), can_stand(AB, B)]
        book = Book(AB, facts)
        told = possible(book), verdict(book, can_stand(AB, AB)), verdict(book, can_stand(AB, A)), possible(QUARREL)
        for other in drawn_books(ABC, 6, 51):
            possible(other)
        again = possible(book), verdict(book, can_stand(AB, AB)), verdict(book, can_stand(AB, A)), possible(QUARREL)
        self.assertEqual(told, again)
        self.assertEqual(book, Book(AB, facts))


class TimeTest(unittest.TestCase):
    def test_books_on_four_things_within_a_generous_time(self):
        books = drawn_books(ABCD, 30, 52)
        started = perf_counter()
        for book in books:
            if possible(book)[0] == "family":
                verdict(book, can_stand(ABCD, AB))
                verdict(book, ("all", book.facts[:3]))
        self.assertTrue(perf_counter() - started < 3)


if __name__ == "__main__":
    unittest.main()
