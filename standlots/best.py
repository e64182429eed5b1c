"""Which lots are best by weights, as far as a book tells it."""

from standlots.keeping import need_kept
from standlots.lots import all_lots
from standlots.pairs import lot_sums, need_weights


def surely_best(book, weights):
    """The ascending tuple of the lots that are best in all families left."""
    best = _best_in_each(book, weights)
    return _lots_at(book, [place for place in best[0][1] if all([place in places for _, places in best])])


def maybe_best(book, weights):
    """The ascending tuple of the lots that are best in some of the families left."""
    best = _best_in_each(book, weights)
    return _lots_at(book, sorted({place for _, places in best for place in places}))


def surely_worth(book, weights):
    """The pair of the least and the greatest sum that a best lot has in the families left."""
    sums = [most for most, _ in _best_in_each(book, weights)]
    return min(sums), max(sums)


def _best_in_each(book, weights):
    """For each family left a pair: the greatest sum, and the ascending list of the places of the best lots."""
    need_weights(book.things, weights)
    kept = need_kept(book)
    sums = lot_sums(book.things, weights)
    sizes = [len(lot) for lot in all_lots(book.things)]
    best = []
    for counts in kept:
        standing = [place for place, size in enumerate(sizes) if counts[place] == size]
        most = max([sums[place] for place in standing])
        best.append((most, [place for place in standing if sums[place] == most]))
    return best


def _lots_at(book, places):
    """The tuple of the lots at these places."""
    lots = all_lots(book.things)
    return tuple([lots[place] for place in places])
