"""Claims, when they hold, and the atoms that are made."""

import unittest

from claim_words import chain, deep, doubled, is_claim, many, some_claims, truth
from plain import (A, AB, ABC, ABCDE, NOTHING_KNOWN, THINGS, WORDS, Echo, Refusals, Strange, nested, otherwise, parts_of,
                   some_families, standing, union)

from standlots.claims import adds_nothing, can_stand, holds, need_claim
from standlots.errors import BadClaim, BadLot, BadThings
from standlots.families import Family, all_families

PAIR = Family(AB, (0, 1, 1, 1))
ATOM = ("atleast", ("b",), ("a",), 0)
NO_CLAIMS = NOTHING_KNOWN + [
    Echo(), (Echo(),), ("atleast",), ("all",), ("some",), ("not",), ("none",), "atleast", ("some", None), ("all", ATOM),
    ("not", ()), ("not", (ATOM,)), ("not", ATOM, ATOM), ("all", (), ()), ("all", (ATOM,), (ATOM,)), ("All", ()), ("any", ()),
    ("all", [ATOM]), ("all", {}), ("all", ""), ("all", "ab"), ("all", {ATOM: 1}), ["all", ()], ["not", ATOM], ("all", ((),)),
    ("all", (ATOM, None)), ("some", (ATOM, ("not",))), ("atleast", A, (), 0, 0), ("atleast", A, ()), list(ATOM), (ATOM,),
    ("atmost", A, (), 0), (b"all", ()), (None, ()), (("all",), ()), ("not", "all"), ("", ()), (("all", ()),), (Echo(), ()),
]


class NeedClaimTest(Refusals):
    def given_back(self, things, claim):
        self.assertTrue(is_claim(things, claim))
        self.assertIs(need_claim(things, claim), claim)

    def refused_claim(self, things, value):
        self.assertFalse(is_claim(things, value))
        self.refused(BadClaim, "value", value, need_claim, things, value)
        self.refused(BadClaim, "value", value, holds, Family(things, [0] * 2 ** len(things)), value)

    def test_claims_of_each_kind(self):
        for things in THINGS + (WORDS,):
            for claim in some_claims(things):
                self.given_back(things, claim)
        self.assertEqual(need_claim(thing=ATOM, things=AB), ATOM)

    def test_all_atoms(self):
        for one in parts_of(ABC):
            for other in parts_of(ABC):
                for number in range(-9, 10):
                    self.given_back(ABC, ("atleast", one, other, number))

    def test_numbers(self):
        for number in (-9, 9, 0):
            self.given_back(AB, ("atleast", A, (), number))
        for number in (-10, 10, 10 ** 999, -(10 ** 999), True, False, None, "1", "", (), (1,), [1], {}, Strange(), Echo(), b"1"):
            self.refused_claim(AB, ("atleast", A, (), number))
            self.refused_claim(AB, ("not", ("atleast", A, (), number)))

    def test_lots_of_other_things(self):
        for lot in (("c",), ABC, ("b", "a"), ("a", "a"), "a", "", ["a"], [], None, 0, (1,), (("a",),), (Echo(),), nested(45)):
            self.refused_claim(AB, ("atleast", lot, (), 0))
            self.refused_claim(AB, ("atleast", (), lot, 0))
            self.refused_claim(AB, ("some", (ATOM, ("atleast", lot, (), 0))))

    def test_how_deep(self):
        for inner in (ATOM, ("all", ()), ("some", ())):
            for links in range(9):
                claim = chain(inner, links)
                self.assertEqual(deep(claim), links + 1)
                if links < 6:
                    self.given_back(AB, claim)
                else:
                    self.refused_claim(AB, claim)
            wide = ("all", (ATOM, chain(inner, 4), ATOM))
            self.given_back(AB, wide)
            self.refused_claim(AB, ("some", (ATOM, wide)))
        self.given_back(AB, ("not", ("not", ("not", ("not", ("not", ATOM))))))
        self.refused_claim(AB, ("not", ("not", ("not", ("not", ("not", ("not", ATOM)))))))
        self.refused_claim(AB, ("not", ("not", ("not", ("not", ("not", ("not", None)))))))

    def test_how_many(self):
        half = ("all", (ATOM,) * 28)
        for claim in (("all", (ATOM,) * 59), ("some", (half, half, ATOM)), ("not", ("some", (half, half))),
                      ("all", (("all", ()),) * 59), ("all", (("not", ATOM),) * 29)):
            self.assertTrue(59 <= many(claim) <= 60)
            self.given_back(AB, claim)
        for claim in (("all", (ATOM,) * 60), ("not", ("all", (ATOM,) * 59)), ("some", (half, half, ATOM, ATOM)),
                      ("all", (("not", ATOM),) * 30), ("all", (("some", ()),) * 60), ("all", (ATOM,) * 1000)):
            self.assertTrue(many(claim) > 60)
            self.refused_claim(AB, claim)
        self.refused_claim(AB, ("all", (ATOM,) * 58 + (None,)))

    def test_few_values_that_stand_in_one_very_often(self):
        self.given_back(AB, doubled(ATOM, 4))
        for times in (5, 6, 20, 45):
            claim = doubled(ATOM, times)
            for function in (lambda: need_claim(AB, claim), lambda: holds(PAIR, claim)):
                with self.assertRaises(BadClaim) as caught:
                    function()
                # Not compared by ==, which would go through all that stands in it.
                self.assertIs(caught.exception.value, claim)

    def test_each_part_otherwise(self):
        claims = (ATOM, ("not", ATOM), ("all", (ATOM, ("some", (("not", ATOM),)))), ("some", (("all", ()), ATOM)), ("all", ()))
        accepted = 0
        for claim in claims:
            for value in otherwise(claim):
                if is_claim(AB, value):
                    accepted += 1
                    self.given_back(AB, value)
                else:
                    self.refused_claim(AB, value)
        self.assertTrue(accepted > 10)

    def test_values_of_every_kind(self):
        for value in NO_CLAIMS + [()]:
            self.refused_claim(AB, value)
            self.refused_claim(AB, ("not", value))
            self.refused_claim(AB, ("all", (ATOM, value)))

    def test_bad_things_come_first(self):
        for value in NOTHING_KNOWN + [()]:
            for claim in (ATOM, ("all", ()), None, ("not",), 7):
                self.refused(BadThings, "value", value, need_claim, value, claim)

    def test_a_refused_list_is_not_changed(self):
        value = ["all", [ATOM]]
        self.refused_claim(AB, value)
        self.assertEqual(value, ["all", [ATOM]])


class HoldsTest(Refusals):
    def test_by_the_words_of_the_document(self):
        for things in THINGS + (WORDS,):
            families = some_families(things, 29)
            for family in families[::3] if len(things) == 4 else families:
                for claim in some_claims(things):
                    self.assertIs(holds(family, claim), truth(family, claim))

    def test_all_atoms_on_two_things(self):
        for family in all_families(AB):
            for one in parts_of(AB):
                for other in parts_of(AB):
                    for number in range(-9, 10):
                        claim = ("atleast", one, other, number)
                        self.assertIs(holds(family, claim), truth(family, claim))

    def test_ordinary(self):
        self.assertIs(holds(PAIR, ("atleast", AB, (), 1)), True)
        self.assertIs(holds(PAIR, ("atleast", AB, (), 2)), False)
        self.assertIs(holds(PAIR, ("atleast", A, AB, 0)), True)
        self.assertIs(holds(family=PAIR, claim=("not", ("atleast", A, AB, 0))), False)

    def test_of_none(self):
        self.assertIs(holds(PAIR, ("all", ())), True)
        self.assertIs(holds(PAIR, ("some", ())), False)
        self.assertIs(holds(PAIR, ("not", ("some", ()))), True)

    def test_claims_on_other_things(self):
        self.refused(BadClaim, "value", ("atleast", ("c",), (), 0), holds, PAIR, ("atleast", ("c",), (), 0))
        self.refused(BadClaim, "value", ("atleast", (), ABC, 0), holds, PAIR, claim=("atleast", (), ABC, 0))
        # A claim without lots is one on any things.
        self.assertIs(holds(Family(("z",), (0, 0)), ("not", ("some", (("atleast", (), (), 1),)))), True)

    def test_families_stay_as_they_were(self):
        for claim in some_claims(AB):
            self.assertEqual(holds(PAIR, claim), holds(PAIR, claim))
        self.assertEqual((PAIR.things, PAIR.counts), (AB, (0, 1, 1, 1)))


class AtomsTest(Refusals):
    def test_can_stand(self):
        for things in THINGS + (WORDS,):
            families = some_families(things, 29)
            for lot in parts_of(things):
                atom = can_stand(things, lot)
                self.assertEqual(atom, ("atleast", lot, (), len(lot)))
                self.assertIs(need_claim(things, atom), atom)
                for family in families:
                    self.assertIs(holds(family, atom), lot in standing(family))
        self.assertEqual(can_stand(lot=A, things=AB), ("atleast", ("a",), (), 1))

    def test_adds_nothing(self):
        for things in THINGS + (WORDS,):
            families = some_families(things, 29)
            for lot in parts_of(things):
                for thing in things:
                    atom = adds_nothing(things, lot, thing)
                    self.assertEqual(atom, ("atleast", lot, union(lot, (thing,)), 0))
                    self.assertIs(need_claim(things, atom), atom)
                    for family in families[::4]:
                        self.assertIs(holds(family, atom), thing in family.hull(lot))

    def test_adds_nothing_ordinary(self):
        self.assertEqual(adds_nothing(ABC, ("b",), "a"), ("atleast", ("b",), ("a", "b"), 0))
        self.assertEqual(adds_nothing(ABC, ("a", "b"), "a"), ("atleast", ("a", "b"), ("a", "b"), 0))
        self.assertEqual(adds_nothing(thing="c", lot=(), things=ABC), ("atleast", (), ("c",), 0))

    def test_bad_things_come_first(self):
        for value in NOTHING_KNOWN + [()]:
            for lot in ((), A, None):
                self.refused(BadThings, "value", value, can_stand, value, lot)
                self.refused(BadThings, "value", value, adds_nothing, value, lot, "a")
                self.refused(BadThings, "value", value, adds_nothing, value, lot, None)

    def test_then_the_lot(self):
        for value in NOTHING_KNOWN + [("c",), ABC, (Echo(),), Echo()]:
            if value in ((), A, ("b",)) and type(value) is tuple:
                continue
            self.refused(BadLot, "value", value, can_stand, AB, value)
            self.refused(BadLot, "value", value, adds_nothing, AB, value, "a")
            self.refused(BadLot, "value", value, adds_nothing, AB, value, None)
            self.refused(BadLot, "value", value, adds_nothing, things=AB, lot=value, thing="c")

    def test_then_the_thing(self):
        for value in NOTHING_KNOWN + ["c", "aa", "A", "b ", ("a",), ["a"], Echo()]:
            if value == "a" and type(value) is str:
                continue
            for lot in ((), A, AB):
                self.refused(BadLot, "value", value, adds_nothing, AB, lot, value)
        self.refused(BadLot, "value", "e", adds_nothing, ("a", "b", "c", "d"), A, "e")
        self.assertEqual(adds_nothing(ABCDE, A, "e"), ("atleast", A, ("a", "e"), 0))


if __name__ == "__main__":
    unittest.main()
