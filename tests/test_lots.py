"""Things, lots, and the names of the rules."""

import unittest
from math import comb

from plain import A, AB, ABC, ABCDE, NOTHING_KNOWN, THINGS, WORDS, Echo, minus, nested, parts_of, union

from standlots.errors import BadThings
from standlots.lots import MOST_THINGS, all_lots, is_lot, joined, need_things, place_of, rules, without


class ThingsTest(unittest.TestCase):
    def test_most_things(self):
        self.assertEqual(MOST_THINGS, 5)
        self.assertIs(type(MOST_THINGS), int)

    def test_good_things_are_given_back(self):
        for things in THINGS + (WORDS, ("abcdefgh",), ("z",), ("a", "aa", "aaa"), ("ab", "b"), ("zzzzzzzz",)):
            self.assertIs(need_things(things), things)

    def test_by_the_name_of_the_parameter(self):
        self.assertEqual(need_things(thing=AB), AB)

    def test_all_else_is_refused(self):
        for value in NOTHING_KNOWN + [()]:
            with self.assertRaises(BadThings) as caught:
                need_things(value)
            self.assertIs(type(caught.exception), BadThings)
            self.assertEqual(caught.exception.value, value)
            self.assertIs(type(caught.exception.value), type(value))

    def test_a_refused_list_is_not_changed(self):
        value = ["b", "a"]
        with self.assertRaises(BadThings):
            need_things(value)
        self.assertEqual(value, ["b", "a"])


class LotsTest(unittest.TestCase):
    def test_lots_of_things(self):
        for things in THINGS + (WORDS,):
            for lot in parts_of(things):
                self.assertIs(is_lot(things, lot), True)

    def test_by_the_names_of_the_parameters(self):
        self.assertIs(is_lot(things=AB, thing=("b",)), True)
        self.assertEqual(all_lots(things=A), ((), A))
        self.assertEqual(joined(one=A, other=("b",)), AB)
        self.assertEqual(without(one=AB, other=A), ("b",))
        self.assertEqual(rules(things=A), (("none",), ("step", (), "a")))

    def test_what_is_no_lot(self):
        for value in NOTHING_KNOWN:
            self.assertIs(is_lot(ABCDE, value), False, repr(value))

    def test_what_is_no_lot_of_these_things(self):
        self.assertIs(is_lot(AB, ("c",)), False)
        self.assertIs(is_lot(AB, ABC), False)
        self.assertIs(is_lot(AB, ("a", "c")), False)
        self.assertIs(is_lot(AB, ("ab",)), False)
        self.assertIs(is_lot(("ab",), ("a",)), False)
        self.assertIs(is_lot(("ab",), ("a", "b")), False)
        self.assertIs(is_lot(AB, ("a", "")), False)
        self.assertIs(is_lot(AB, nested(49)), False)
        self.assertIs(is_lot(AB, (Echo(),)), False)
        self.assertIs(is_lot(AB, ("a", Echo())), False)
        self.assertIs(is_lot(AB, Echo()), False)

    def test_the_place_of_a_lot(self):
        for things in THINGS + (WORDS, ("ab", "b")):
            for place, lot in enumerate(parts_of(things)):
                self.assertEqual(place_of(things, lot), place)
            for value in NOTHING_KNOWN + [Echo(), (Echo(),)]:
                if not is_lot(things, value):
                    self.assertIsNone(place_of(things, value))

    def test_the_order_of_all_lots(self):
        self.assertEqual(all_lots(A), ((), ("a",)))
        self.assertEqual(all_lots(AB), ((), ("a",), ("a", "b"), ("b",)))
        self.assertEqual(all_lots(ABC), ((), ("a",), ("a", "b"), ("a", "b", "c"), ("a", "c"), ("b",), ("b", "c"),
                                         ("c",)))
        for things in THINGS + (WORDS, ("ab", "b")):
            self.assertEqual(all_lots(things), tuple(parts_of(things)))
            self.assertIs(type(all_lots(things)), tuple)

    def test_joined_and_without(self):
        for one in parts_of(WORDS):
            for other in parts_of(WORDS):
                self.assertEqual(joined(one, other), union(one, other))
                self.assertEqual(without(one, other), minus(one, other))

    def test_joined_and_without_at_the_edges(self):
        self.assertEqual(joined((), ()), ())
        self.assertEqual(joined(AB, ()), AB)
        self.assertEqual(joined((), AB), AB)
        self.assertEqual(joined(("b",), ("a",)), AB)
        self.assertEqual(joined(("a", "c"), ("b", "c")), ABC)
        self.assertEqual(without((), AB), ())
        self.assertEqual(without(AB, ()), AB)
        self.assertEqual(without(AB, AB), ())
        self.assertEqual(without(AB, ("b", "c")), A)
        # Lots of unlike things, and words that are parts of one another.
        self.assertEqual(joined(("x",), ("ab", "b")), ("ab", "b", "x"))
        self.assertEqual(without(("ab", "b"), ("b",)), ("ab",))


class RulesTest(unittest.TestCase):
    def test_rules_of_one_thing_and_of_two(self):
        self.assertEqual(rules(A), (("none",), ("step", (), "a")))
        self.assertEqual(rules(AB), (
            ("none",),
            ("step", (), "a"), ("step", (), "b"), ("step", ("a",), "b"), ("step", ("b",), "a"),
            ("pair", (), "a", "b"),
        ))

    def test_rules_of_three_things(self):
        self.assertEqual(rules(ABC), (
            ("none",),
            ("step", (), "a"), ("step", (), "b"), ("step", (), "c"),
            ("step", ("a",), "b"), ("step", ("a",), "c"), ("step", ("a", "b"), "c"), ("step", ("a", "c"), "b"),
            ("step", ("b",), "a"), ("step", ("b",), "c"), ("step", ("b", "c"), "a"),
            ("step", ("c",), "a"), ("step", ("c",), "b"),
            ("pair", (), "a", "b"), ("pair", (), "a", "c"), ("pair", (), "b", "c"),
            ("pair", ("a",), "b", "c"), ("pair", ("b",), "a", "c"), ("pair", ("c",), "a", "b"),
        ))

    def test_kinds_order_and_number_of_rules(self):
        for things in THINGS + (WORDS,):
            names = rules(things)
            many = len(things)
            steps = [name for name in names if name[0] == "step"]
            pairs = [name for name in names if name[0] == "pair"]
            self.assertIs(type(names), tuple)
            self.assertEqual(names, (("none",),) + tuple(sorted(steps)) + tuple(sorted(pairs)))
            self.assertEqual(len(set(steps)), many * 2 ** (many - 1))
            self.assertEqual(len(set(pairs)), comb(many, 2) * 2 ** many // 4)
            for _, lot, *beside in steps + pairs:
                self.assertTrue(is_lot(things, lot))
                self.assertTrue(is_lot(minus(things, lot), tuple(beside)))


if __name__ == "__main__":
    unittest.main()
