"""Claims, books and families as texts, and back."""

import re
import unittest
from random import Random
from time import perf_counter

from claim_words import chain, is_claim, some_claims
from drawn import draw_claim, drawn_books
from plain import (A, AB, ABC, ABCD, ABCDE, NOTHING_KNOWN, THINGS, WORDS, Echo, Refusals, Strange, is_family, parts_of,
                   some_families, standing)

from standlots.books import Book
from standlots.claims import can_stand
from standlots.errors import BadClaim, BadCounts, BadText, BadThings
from standlots.families import Family, all_families
from standlots.texts import book_text, claim_text, family_text, read_book, read_claim, read_family

TRUE = ("all", ())
FALSE = ("some", ())
B = ("b",)
NO_CLAIMS = NOTHING_KNOWN + [(), Echo(), ("atleast", A, (), 10), ("all", [TRUE]), ("all", (TRUE,) * 60), chain(TRUE, 6)]
NO_STRINGS = [value for value in NOTHING_KNOWN if type(value) is not str] + [(), Echo(), b"a - 0 >= 1", ["a - 0 >= 1"],
                                                                              ("a - 0 >= 1",), Strange(), Book(AB)]
SIGNS = ["", " ", "  ", "\n", ".", "-", "+", "0", "1", "9", "10", "a", "b", "z", "[", "]", ";", "; ", ">", "=", "<", "not", "A", "~"]


def lot_words(lot):
    return ".".join(lot) or "0"


def written(claim):
    """The text of a claim, by the words of the document."""
    if claim[0] == "atleast":
        return lot_words(claim[1]) + " - " + lot_words(claim[2]) + " >= " + str(claim[3])
    if claim[0] == "not":
        return "not[ " + written(claim[1]) + " ]"
    return claim[0] + "[ " + "".join(written(part) + "; " for part in claim[1])[:-2] + " ]" * (claim[1] != ()) + "]" * (claim[1] == ())


def taken(things, text):
    """The claim that a text is of, or None: whatever is a claim already is exchanged for a number in braces."""
    lots = {lot_words(lot): lot for lot in parts_of(things)}
    claims = []
    if "{" in text or "}" in text:
        return None

    def keep(claim):
        claims.append(claim)
        return "{%d}" % (len(claims) - 1)

    def atom(match):
        if match[1] not in lots or match[2] not in lots:
            return "{none}"
        return keep(("atleast", lots[match[1]], lots[match[2]], int(match[3])))

    def bracket(match):
        if match[1] is not None:
            return keep(("not", claims[int(match[1])]))
        parts = re.findall(r"[0-9]+", match[3] or "")
        return keep((match[2], tuple(claims[int(part)] for part in parts)))

    text = re.sub(r"(?<![a-z0-9.])([a-z0-9.]+) - ([a-z0-9.]+) >= (0|-?[1-9])(?![0-9a-z.])", atom, text)
    before = None
    while text != before:
        before = text
        text = re.sub(r"(?<![a-z])(?:not\[ \{([0-9]+)\} \]|(all|some)\[ ((?:\{[0-9]+\}(?:; \{[0-9]+\})* )?)\])", bracket, text)
    if not re.fullmatch(r"\{[0-9]+\}", text):
        return None
    claim = claims[int(text[1:-1])]
    return claim if is_claim(things, claim) else None


def changed(text):
    """Texts in which one sign is left out, doubled, exchanged, turned about with the next one, or put in."""
    found = []
    for at in range(len(text) + 1):
        found += [text[:at] + sign + text[at:] for sign in SIGNS]
        found += [text[:at] + sign + text[at + 1:] for sign in SIGNS]
        found.append(text[:at] + text[at:at + 2][::-1] + text[at + 2:])
    return [other for other in found if other != text]


def changed_lines(text):
    """Texts in which one line is left out, doubled, turned about with the next one, or put in."""
    lines = text.split("\n")
    found = []
    for at in range(len(lines) + 1):
        found.append(lines[:at] + lines[at + 1:])
        found.append(lines[:at] + lines[at:at + 1] * 2 + lines[at + 1:])
        found.append(lines[:at] + lines[at:at + 2][::-1] + lines[at + 2:])
        for line in ("", " ", "all[ ]", "0", "a", "b", "a.b", "b.a", "things a b", "a - 0 >= 1", "a - 0 >= 10"):
            found.append(lines[:at] + [line] + lines[at:])
            found.append(lines[:at] + [line] + lines[at + 1:])
    return ["\n".join(rows) for rows in found]


class ClaimTextTest(Refusals):
    def test_there_and_back(self):
        rng = Random(121)
        for things in THINGS + (WORDS,):
            for claim in some_claims(things) + [draw_claim(rng, things, 6) for _ in range(60)]:
                if not is_claim(things, claim):
                    continue
                text = claim_text(things, claim)
                self.assertEqual((type(text), text), (str, written(claim)))
                self.assertEqual(read_claim(things, text), claim)
                self.assertEqual(taken(things, text), claim)

    def test_all_atoms(self):
        for one in parts_of(AB):
            for other in parts_of(AB):
                for number in range(-9, 10):
                    claim = ("atleast", one, other, number)
                    self.assertEqual(claim_text(AB, claim), f"{lot_words(one)} - {lot_words(other)} >= {number}")
                    self.assertEqual(read_claim(AB, claim_text(AB, claim)), claim)

    def test_ordinary(self):
        self.assertEqual(claim_text(ABC, can_stand(ABC, ("b", "c"))), "b.c - 0 >= 2")
        self.assertEqual(claim_text(ABC, ("atleast", (), ABC, -3)), "0 - a.b.c >= -3")
        self.assertEqual(claim_text(A, TRUE), "all[ ]")
        self.assertEqual(claim_text(A, FALSE), "some[ ]")
        self.assertEqual(claim_text(A, ("not", FALSE)), "not[ some[ ] ]")
        claim = ("some", (can_stand(AB, A), ("not", can_stand(AB, B)), ("all", (TRUE, FALSE))))
        text = "some[ a - 0 >= 1; not[ b - 0 >= 1 ]; all[ all[ ]; some[ ] ] ]"
        self.assertEqual(claim_text(claim=claim, things=AB), text)
        self.assertEqual(read_claim(text=text, things=AB), claim)
        self.assertEqual(read_claim(WORDS, "abcdefgh.z - ab.ba >= 0"), ("atleast", ("abcdefgh", "z"), ("ab", "ba"), 0))
        # Words that could be taken for other things than things.
        things = ("all", "atleast", "not", "some")
        claim = ("not", ("atleast", things, ("not",), 9))
        self.assertEqual(claim_text(things, claim), "not[ all.atleast.not.some - not >= 9 ]")
        self.assertEqual(read_claim(things, claim_text(things, claim)), claim)

    def test_errors(self):
        for value in NOTHING_KNOWN + [()]:
            for claim in (TRUE, None, ()):
                self.refused(BadThings, "value", value, claim_text, value, claim)
        for value in NO_CLAIMS:
            self.refused(BadClaim, "value", value, claim_text, AB, value)
        self.refused(BadClaim, "value", None, claim_text, claim=None, things=AB)


class ReadClaimTest(Refusals):
    def told(self, things, text):
        expected = taken(things, text)
        if expected is None:
            self.refused(BadText, "line", 1, read_claim, things, text)
        else:
            self.assertEqual(read_claim(things, text), expected)
            self.assertEqual(written(expected), text)

    def test_one_sign_otherwise(self):
        claims = [("atleast", AB, A, -3), can_stand(AB, ()), TRUE, ("not", FALSE), ("all", (can_stand(AB, A), TRUE)),
                  ("some", (("not", ("atleast", B, A, 0)), ("all", (can_stand(AB, AB),)), FALSE))]
        for claim in claims:
            text = claim_text(AB, claim)
            for other in changed(text):
                self.told(AB, other)
            for at in range(len(text)):
                self.told(AB, text[:at])
                self.told(AB, text[at:])
                self.told(AB, text[at:] + text[:at])

    def test_numbers(self):
        for number in ("-10", "10", "-0", "+1", "01", "-01", "00", "1.0", "", "-", "--1", "a", "99", "-99", "1 ", " 1", "\u0661", "\u00b2",
                       "1_0", "0x1", "1e1", "True"):
            self.refused(BadText, "line", 1, read_claim, AB, "a - 0 >= " + number)
        for number in range(-9, 10):
            self.assertEqual(read_claim(AB, f"a - 0 >= {number}"), ("atleast", A, (), number))

    def test_lots(self):
        for lot in ("", "c", "b.a", "a.a", "a.", ".a", "a..b", "a,b", "A", "0.a", "a.0", "00", "()", "a b", "aa", "a.b.c", "-", "1"):
            self.refused(BadText, "line", 1, read_claim, AB, lot + " - 0 >= 1")
            self.refused(BadText, "line", 1, read_claim, AB, "0 - " + lot + " >= 1")
        self.assertEqual(read_claim(ABC, "a.b.c - 0 >= 1"), ("atleast", ABC, (), 1))

    def test_other_texts(self):
        for text in ("", " ", "\n", "all", "all[", "all[]", "all[  ]", "all[ ] ", " all[ ]", "all[ ]\n", "\nall[ ]", "not[ ]", "not[]",
                     "not[ all[ ]; all[ ] ]", "All[ ]", "any[ ]", "atleast[ ]", "[ ]", "[ all[ ] ]", "all[ all[ ];all[ ] ]",
                     "all[ all[ ];  all[ ] ]", "all[ all[ ]; ]", "all[ ; all[ ] ]", "all[ ]; all[ ]", "all[ all[ ] ]; all[ ]",
                     "all[ all[ ] ] ]", "all[ [ all[ ] ] ]", "a - 0 > 1", "a - 0 = 1", "a-0>=1", "a  - 0 >= 1", "a - 0 >= 1;",
                     "a + 0 >= 1", "a - 0 >= 1 ]", "not a - 0 >= 1", "not[ a - 0 >= 1", "a - 0 >= 1 - 1", "a - 0", "a", "0",
                     "all[\nall[ ]\n]", "all[ all[ ]\n; all[ ] ]", "things a b", "(all[ ])", "all[ 0 ]", "all[ ]all[ ]", "some [ ]"):
            self.refused(BadText, "line", 1, read_claim, AB, text)
            self.assertIsNone(taken(AB, text))

    def test_of_no_claim(self):
        for depth in range(1, 12):
            text = "all[ ]"
            for _ in range(depth - 1):
                text = "not[ " + text + " ]"
            if depth <= 6:
                self.assertEqual(claim_text(AB, read_claim(AB, text)), text)
            else:
                self.refused(BadText, "line", 1, read_claim, AB, text)
        for many in (57, 58, 59, 60, 61, 200, 2000):
            text = "some[ " + "; ".join(["all[ ]"] * many) + " ]"
            if many <= 59:
                self.assertEqual(read_claim(AB, text), ("some", (TRUE,) * many))
            else:
                self.refused(BadText, "line", 1, read_claim, AB, text)

    def test_long_texts(self):
        for text in ("not[ " * 4000, "all[ " * 2000 + "]" * 9000, "[" * 20000, "]" * 20000, "; " * 10000, "all[ " + "; " * 9000 + " ]",
                     "a." * 10000, "all[ " + "[; " * 6000 + " ]", "not[ " * 1700 + "all[ ]" + " ]" * 1700, "all[ " * 1700 + "all[ ]" + " ]" * 1700, " " * 20000, "9" * 20000,
                     "a - 0 >= " + "1" * 19000, "all[ " + "]; [" * 4000 + " ]"):
            self.refused(BadText, "line", 1, read_claim, AB, text)

    def test_bad_things_come_first(self):
        for value in NOTHING_KNOWN + [()]:
            for text in ("all[ ]", None, ""):
                self.refused(BadThings, "value", value, read_claim, value, text)

    def test_what_is_no_string(self):
        for value in NO_STRINGS:
            self.refused(BadText, "line", None, read_claim, AB, value)
        self.refused(BadText, "line", None, read_claim, text=None, things=AB)


class BookTextTest(Refusals):
    def told(self, text):
        """read_book tells just what the words of the document do."""
        lines = text.split("\n")
        words = lines[0].split(" ")
        things = tuple(words[1:])
        if words[0] != "things" or not 1 <= len(things) <= 5 or not all(re.fullmatch("[a-z]{1,8}", word) for word in things) \
                or list(things) != sorted(set(things)):
            self.refused(BadText, "line", 1, read_book, text)
            return
        for number, line in enumerate(lines[1:], 2):
            if number == 14 or taken(things, line) is None:
                self.refused(BadText, "line", number, read_book, text)
                return
        book = read_book(text)
        self.assertEqual((type(book), book), (Book, Book(things, [taken(things, line) for line in lines[1:]])))
        self.assertEqual(book_text(book), text)

    def test_there_and_back(self):
        for things, many in zip(THINGS, (10, 20, 20, 20, 4)):
            for book in drawn_books(things, many, 122):
                text = book_text(book)
                expected = "\n".join(["things " + " ".join(things)] + [written(fact) for fact in book.facts])
                self.assertEqual((type(text), text), (str, expected))
                self.assertEqual(read_book(text), book)

    def test_ordinary(self):
        book = Book(AB, [can_stand(AB, A), ("not", can_stand(AB, AB))])
        self.assertEqual(book_text(book=book), "things a b\na - 0 >= 1\nnot[ a.b - 0 >= 2 ]")
        self.assertEqual(read_book(text="things a b\na - 0 >= 1\nnot[ a.b - 0 >= 2 ]"), book)
        self.assertEqual(book_text(Book(WORDS)), "things ab abcdefgh b ba z")
        self.assertEqual(read_book("things ab abcdefgh b ba z"), Book(WORDS))
        # A book that is not possible is one all the same.
        self.assertEqual(read_book("things things\nsome[ ]"), Book(("things",), [FALSE]))

    def test_one_sign_otherwise(self):
        text = book_text(Book(AB, [can_stand(AB, A), ("not", ("all", (TRUE, can_stand(AB, AB))))]))
        for other in changed(text):
            self.told(other)
        for at in range(len(text)):
            self.told(text[:at])
            self.told(text[at:])

    def test_one_line_otherwise(self):
        for book in (Book(A), Book(AB, [TRUE]), Book(AB, [can_stand(AB, A), FALSE, ("not", can_stand(AB, B))]), Book(ABC, [TRUE] * 12)):
            for other in changed_lines(book_text(book)):
                self.told(other)

    def test_the_first_line(self):
        for line in ("", "things", "things ", " things a", "thing a", "Things a", "things  a", "things a ", "things a  b", "things b a",
                     "things a a", "things a.b", "things a,b", "things A", "things a1", "things abcdefghi", "things a b c d e f",
                     "a b", "things\ta", "things 0", "things\u00a0a", "things \u00e9"):
            for rest in ("", "\nall[ ]", "\n", "\nno fact", "\nall[ ]" * 13):
                self.refused(BadText, "line", 1, read_book, line + rest)

    def test_thirteen_and_fourteen_lines(self):
        fact = "\na - 0 >= 1"
        for many in range(9, 13):
            self.assertEqual(read_book("things a b" + fact * many), Book(AB, [can_stand(AB, A)] * many))
        for text in ("things a b" + fact * 13, "things a b" + fact * 14, "things a b" + fact * 12 + "\n", "things a b" + fact * 12 + "\n?",
                     "things a b" + fact * 1500, "things a b" + fact * 12 + "\n" * 9):
            self.refused(BadText, "line", 14, read_book, text)
        for number in range(2, 14):
            lines = ["things a b"] + ["a - 0 >= 1"] * 14
            lines[number - 1] = "c - 0 >= 1"
            self.refused(BadText, "line", number, read_book, "\n".join(lines))
            lines[number] = ""
            self.refused(BadText, "line", number, read_book, "\n".join(lines))
        self.refused(BadText, "line", 3, read_book, "things a b" + fact + "\n")

    def test_what_is_no_string(self):
        for value in NO_STRINGS:
            self.refused(BadText, "line", None, read_book, value)
        self.refused(BadText, "line", None, read_book, text=None)


class FamilyTextTest(Refusals):
    def told(self, things, text):
        """read_family tells just what the words of the document do."""
        lots = {lot_words(lot): lot for lot in parts_of(things)}
        bases = []
        for number, line in enumerate(text.split("\n"), 1):
            if line not in lots or bases and lots[line] <= bases[-1]:
                self.refused(BadText, "line", number, read_family, things, text)
                return
            bases.append(lots[line])
        inside = {part for lot in bases for part in parts_of(lot)}
        greatest = {lot for lot in inside if not any(set(lot) < set(other) for other in inside)}
        if greatest == set(bases) and is_family(inside):
            family = read_family(things, text)
            self.assertEqual((type(family), family.things, standing(family)), (Family, things, inside))
            self.assertEqual(family_text(family), text)
        else:
            self.refused(BadCounts, "place", ("bases",), read_family, things, text)

    def test_there_and_back(self):
        for things in THINGS + (WORDS,):
            for family in some_families(things, 5):
                text = family_text(family)
                self.assertEqual((type(text), text), (str, "\n".join(lot_words(lot) for lot in family.bases())))
                self.assertEqual(read_family(things, text), family)

    def test_ordinary(self):
        family = Family(AB, (0, 1, 1, 1))
        self.assertEqual(family_text(family=family), "a\nb")
        self.assertEqual(read_family(text="a\nb", things=AB), family)
        self.assertEqual(family_text(Family(AB, (0, 0, 0, 0))), "0")
        self.assertEqual(read_family(ABC, "0"), Family(ABC, [0] * 8))
        self.assertEqual(read_family(ABC, "a.b.c"), all_families(ABC)[-1])
        self.assertEqual(family_text(Family(ABCDE, [0] * 32)), "0")

    def test_all_sets_of_lots(self):
        for things in (A, AB, ABC):
            lots = parts_of(things)
            for number in range(1, 2 ** len(lots)):
                self.told(things, "\n".join(lot_words(lot) for at, lot in enumerate(lots) if number >> at & 1))

    def test_drawn_sets_of_lots(self):
        rng = Random(123)
        for things in (ABCD, ABCDE):
            for _ in range(150):
                size = rng.randrange(1, 4)
                lots = [lot for lot in parts_of(things) if len(lot) == size]
                chosen = sorted(rng.sample(lots, rng.randrange(1, len(lots) + 1)) + rng.choice([[], [], [()], [("a",)]]))
                self.told(things, "\n".join(lot_words(lot) for lot in chosen))

    def test_one_sign_otherwise(self):
        for things, text in ((AB, "a\nb"), (ABC, "a.b\na.c\nb.c"), (AB, "0"), (WORDS, "ab.z\nb.z")):
            for other in changed(text) + changed_lines(text):
                self.told(things, other)

    def test_lines(self):
        for text, line in (("", 1), ("\n", 1), ("a\n", 2), ("\na", 1), ("b\na", 2), ("a\na", 2), ("a\n0", 2), ("a.b\na", 2), ("a\nc", 2),
                           ("b.a", 1), ("a \nb", 1), ("a\n b", 2), ("a\nb\nb", 3), ("a\nb\n", 3), ("a.b.c", 1), ("a\r\nb", 1), ("()", 1)):
            self.refused(BadText, "line", line, read_family, AB, text)
        self.refused(BadText, "line", 3, read_family, AB, "0\na\n0\nc")
        self.refused(BadText, "line", 2, read_family, ABC, "a\n" * 9000)

    def test_no_bases(self):
        for text in ("0\na", "a\na.b", "0\na\na.b\nb", "0\na.b", "a\na.b\nb", "a.b\nb"):
            self.refused(BadCounts, "place", ("bases",), read_family, AB, text)
        self.refused(BadCounts, "place", ("bases",), read_family, ABC, "a.b\nc")
        self.refused(BadCounts, "place", ("bases",), read_family, ABCD, "a.b\nc.d")
        # Ahead of it, each line is looked at.
        self.refused(BadText, "line", 3, read_family, ABCD, "a.b\nc.d\nb")

    def test_bad_things_come_first(self):
        for value in NOTHING_KNOWN + [()]:
            for text in ("0", None, ""):
                self.refused(BadThings, "value", value, read_family, value, text)

    def test_what_is_no_string(self):
        for value in NO_STRINGS:
            self.refused(BadText, "line", None, read_family, AB, value)


class TimeTest(unittest.TestCase):
    def test_within_a_generous_time(self):
        claim = ("some", tuple(can_stand(ABCD, AB) for _ in range(59)))
        book = Book(ABCD, [claim] * 4)
        families = all_families(ABCD)
        started = perf_counter()
        for _ in range(20):
            read_claim(ABCD, claim_text(ABCD, claim))
            read_book(book_text(book))
        for family in families:
            read_family(ABCD, family_text(family))
        self.assertTrue(perf_counter() - started < 1)


if __name__ == "__main__":
    unittest.main()
