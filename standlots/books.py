"""Books of facts on things."""

from standlots.claims import is_claim, is_true
from standlots.errors import BadFacts, BadNumber
from standlots.families import Family
from standlots.kinds import is_ascending, is_whole
from standlots.lots import need_things

MOST_FACTS = 12


class Book:
    """Things and facts, which are claims on them; it never changes."""

    def __init__(self, things, facts=()):
        need_things(things)
        _need_facts(things, facts)
        self.things = things
        self.facts = tuple(facts)

    def __len__(self):
        """How many facts."""
        return len(self.facts)

    def __getitem__(self, at):
        """The fact with a number."""
        if not self._is_number(at):
            raise BadNumber(at)
        return self.facts[at]

    def __iter__(self):
        raise TypeError("a Book is not iterated over")

    def __eq__(self, other):
        return isinstance(other, Book) and self.things == other.things and self.facts == other.facts

    def adding(self, claim):
        """The book with a further fact at its end."""
        if not is_claim(self.things, claim):
            raise BadFacts(len(self.facts))
        if len(self.facts) == MOST_FACTS:
            raise BadFacts(None)
        return Book(self.things, self.facts + (claim,))

    def only(self, numbers):
        """The book with the facts of these numbers alone."""
        if not isinstance(numbers, tuple) or not all([self._is_number(number) for number in numbers]):
            raise BadNumber(numbers)
        if not is_ascending(numbers):
            raise BadNumber(numbers)
        return Book(self.things, [self.facts[number] for number in numbers])

    def keeps(self, family):
        """Whether any value is a Family that keeps the book."""
        if not isinstance(family, Family) or family.things != self.things:
            return False
        return all([is_true(family, fact) for fact in self.facts])

    def _is_number(self, value):
        """Whether any value is the number of a fact."""
        return is_whole(value) and 0 <= value < len(self.facts)


def _need_facts(things, facts):
    """Refuse what is no list or tuple of at most 12 claims on the things."""
    if not isinstance(facts, (list, tuple)) or len(facts) > MOST_FACTS:
        raise BadFacts(None)
    for number, fact in enumerate(facts):
        if not is_claim(things, fact):
            raise BadFacts(number)
