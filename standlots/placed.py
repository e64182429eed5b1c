"""Claims with the places of lots in all_lots instead of the lots: numbers of lots are then asked for in lists."""

from standlots.lots import all_lots


def places_of(things):
    """A dict from all lots, in their order, to their places."""
    return {lot: place for place, lot in enumerate(all_lots(things))}


def placed(places, claim):
    """The claim with the place of each lot instead of the lot."""
    word = claim[0]
    if word == "atleast":
        return (word, places[claim[1]], places[claim[2]], claim[3])
    if word == "not":
        return (word, placed(places, claim[1]))
    return (word, tuple([placed(places, part) for part in claim[1]]))


def placed_facts(book):
    """The list of the facts of a book, with places."""
    places = places_of(book.things)
    return [placed(places, fact) for fact in book.facts]
