"""Tables, what claims are at them, and trees, by the words of promises 19 to 21."""

from itertools import permutations

from claim_words import truth
from plain import parts_of, standing, union, minus

from standlots.families import all_families


def first_words(things):
    return {lot: (0, len(lot)) for lot in parts_of(things)}


def bounds(things, least, most):
    """All that is to hold, each as: which dict, whose lot, and the number that it is at least, or at most."""
    for lot in parts_of(things):
        for thing in minus(things, lot):
            more = union(lot, (thing,))
            yield least, more, least[lot]
            yield most, lot, most[more]
            yield most, more, most[lot] + 1
            yield least, lot, least[more] - 1
        for i, j in permutations(minus(things, lot), 2):
            one, other, both = union(lot, (i,)), union(lot, (j,)), union(lot, (i, j))
            yield least, one, least[lot] + least[both] - most[other]
            yield most, both, most[one] + most[other] - least[lot]
            yield most, lot, most[one] + most[other] - least[both]


def narrow_words(things, table):
    """The table narrowed, or None."""
    least = {lot: pair[0] for lot, pair in table.items()}
    most = {lot: pair[1] for lot, pair in table.items()}
    changed = True
    while changed:
        if any(least[lot] > most[lot] for lot in least):
            return None
        changed = False
        for numbers, lot, bound in bounds(things, least, most):
            if numbers is least and numbers[lot] < bound or numbers is most and numbers[lot] > bound:
                numbers[lot] = bound
                changed = True
                if least[lot] > most[lot]:
                    return None
    return {lot: (least[lot], most[lot]) for lot in least}


def judge_words(table, claim):
    """"true", "false" or "open"."""
    if claim[0] == "atleast":
        _, lot, other, number = claim
        if lot == other:
            return "true" if number <= 0 else "false"
        if table[lot][0] - table[other][1] >= number:
            return "true"
        return "false" if table[lot][1] - table[other][0] < number else "open"
    if claim[0] == "not":
        return {"true": "false", "false": "true", "open": "open"}[judge_words(table, claim[1])]
    told = [judge_words(table, part) for part in claim[1]]
    if claim[0] == "all":
        return "false" if "false" in told else "true" if all(word == "true" for word in told) else "open"
    return "true" if "true" in told else "false" if all(word == "false" for word in told) else "open"


def is_tree(things, value):
    """Whether any value is a tree, by promise 21; values that are not much deeper than a tree."""
    lots = parts_of(things)

    def ends_and_cases(value):
        if type(value) is not tuple or len(value) not in (0, 4):
            raise ValueError
        if not value:
            return 1, 0
        lot, number, first, second = value
        if type(lot) is not tuple or any(type(word) is not str for word in lot) or lot not in lots or type(number) is not int:
            raise ValueError
        one, other = ends_and_cases(first), ends_and_cases(second)
        return one[0] + other[0], 1 + max(one[1], other[1])

    try:
        ends, cases = ends_and_cases(value)
    except ValueError:
        return False
    return ends <= 20000 and cases <= 99


def tables_at_ends(things, tree, table):
    """The tables at all ends of a tree, with this one at its root; None for an empty one."""
    if tree == ():
        return [table]
    lot, number, first, second = tree
    below = above = None
    if table is not None:
        below, above = dict(table), dict(table)
        least, most = table[lot]
        below[lot] = (least, min(most, number))
        above[lot] = (max(least, number + 1), most)
        below = narrow_words(things, below) if below != table else table
        above = narrow_words(things, above) if above != table else table
    return tables_at_ends(things, first, below) + tables_at_ends(things, second, above)


def is_shut(book, table):
    return table is None or any(judge_words(table, fact) == "false" for fact in book.facts)


def shows_words(book, claim, value):
    """Whether any value is a tree that shows the claim, by promise 21."""
    if not is_tree(book.things, value):
        return False
    tables = tables_at_ends(book.things, value, narrow_words(book.things, first_words(book.things)))
    return all(is_shut(book, table) or judge_words(table, claim) == "true" for table in tables)


def quarrel_words(book, value):
    """Whether any value is a tree that is a quarrel, by promise 21."""
    if not is_tree(book.things, value):
        return False
    tables = tables_at_ends(book.things, value, narrow_words(book.things, first_words(book.things)))
    return all(is_shut(book, table) for table in tables)


def keeping(book):
    """All families that keep a book, by promises 17 and 18."""
    return [family for family in all_families(book.things) if all(truth(family, fact) for fact in book.facts)]


def counts_within(table, family):
    """Whether the counts of a family, by promise 11, lie within the stretches of a table."""
    lots = standing(family)
    for lot, (least, most) in table.items():
        if not least <= max(len(part) for part in parts_of(lot) if part in lots) <= most:
            return False
    return True
