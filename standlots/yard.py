"""A yard: a book that learns by answers."""

from standlots.claims import can_stand
from standlots.errors import BadLot, BadNumber
from standlots.keeping import kept_counts, need_kept
from standlots.kinds import is_whole
from standlots.lots import place_of
from standlots.questions import next_question


class Yard:
    """A book that goes on, fact by fact, and back; some family always keeps it."""

    def __init__(self, book):
        need_kept(book)
        # The book at the beginning, and the one behind each fact that was learnt; books never change.
        self.books = (book,)

    def __len__(self):
        """How many facts were learnt and not taken back."""
        return len(self.books[1:])

    def __eq__(self, other):
        return isinstance(other, Yard) and self.books[-1] == other.books[-1]

    @property
    def book(self):
        """The book now."""
        return self.books[-1]

    def many(self):
        """How many families are left."""
        return len(kept_counts(self.book))

    def answer(self, lot, stands):
        """Learn that a lot can stand, or that it cannot."""
        claim = can_stand(self.book.things, lot)
        if not isinstance(stands, bool):
            raise BadNumber(stands)
        self.learn(claim if stands else ("not", claim))

    def learn(self, claim):
        """Learn a further fact."""
        book = self.book.adding(claim)
        need_kept(book)
        self.books = self.books + (book,)

    def undo(self, many=1):
        """Take the last facts that were learnt back."""
        if not is_whole(many) or not 1 <= many <= len(self):
            raise BadNumber(many)
        self.books = self.books[:-many]

    def surely(self, lot):
        """True if the lot can stand in all families left, False if it can in none, None otherwise."""
        place = place_of(self.book.things, lot)
        if place is None:
            raise BadLot(lot)
        standing = [counts[place] == len(lot) for counts in kept_counts(self.book)]
        if any(standing):
            return True if all(standing) else None
        return False

    def ask(self):
        """The next question of the book now."""
        return next_question(self.book)

    def trial(self):
        """What a with statement takes: when its block ends, the yard is what it was when it began."""
        return Trial(self)


class Trial:
    """A block at the end of which a yard is what it was."""

    def __init__(self, yard):
        self.yard = yard

    def __enter__(self):
        self.held = self.yard.books
        return self.yard

    def __exit__(self, kind, value, trace):
        yard = self.yard
        yard.books = self.held


def tried(yard, function):
    """What a function of the yard returns, called in a trial."""
    with yard.trial():
        return function(yard)
