"""The examples of the document."""

import unittest

from standlots.best import surely_best
from standlots.books import Book
from standlots.claims import can_stand
from standlots.families import Family, all_families
from standlots.makers import of_frame
from standlots.pairs import parting
from standlots.questions import fewest
from standlots.texts import claim_text
from standlots.verdicts import check, follows, verdict


class ExamplesTest(unittest.TestCase):
    def test_three_things_of_which_the_first_goes_with_none_of_the_others(self):
        things = ('a', 'b', 'c')
        singles = [can_stand(things, (thing,)) for thing in things]
        book = Book(things, singles + [('not', can_stand(things, ('a', 'b'))), ('not', can_stand(things, ('a', 'c')))])
        self.assertEqual(len(book), 5)
        kept = [family for family in all_families(things) if book.keeps(family)]
        # The one family in which no two of them stand together, so b and c do not, either.
        self.assertEqual(kept, [Family(things, (0, 1, 1, 1, 1, 1, 1, 1))])
        self.assertIs(follows(book, ('not', can_stand(things, ('b', 'c')))), True)
        self.assertEqual(check(book, can_stand(things, ('b',)), verdict(book, can_stand(things, ('b',)))), 'tree')
        self.assertEqual(verdict(Book(things), can_stand(things, ('b',)))[0], 'family')
        self.assertEqual(surely_best(book, (2, 1, 1)), (('a',),))
        self.assertEqual(fewest(Book(things, singles), can_stand(things, things)), 1)

    def test_makers_and_families(self):
        self.assertEqual(of_frame([('a', 1, 2), ('b', 2, 3), ('c', 3, 1)]).bases(), (('a', 'b'), ('a', 'c'), ('b', 'c')))
        self.assertEqual(len(all_families(('a', 'b', 'c'))), 16)

    def test_parting(self):
        self.assertEqual(parting(Family(('a', 'b'), (0, 1, 1, 1))), ((('a',), ('b',)), ('a', 'b')))

    def test_texts(self):
        things = ('a', 'b', 'c')
        self.assertEqual(claim_text(things, can_stand(things, ('b', 'c'))), 'b.c - 0 >= 2')


if __name__ == "__main__":
    unittest.main()
