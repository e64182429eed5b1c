"""Tables of stretches as pairs of lists, the least and the most numbers of all lots in their order.

Where a table is None, it is empty.
"""

from standlots.lots import all_lots
from standlots.places import PAIRS, STEPS


def first_stretches(things):
    """The first table."""
    lots = all_lots(things)
    return [0] * len(lots), [len(lot) for lot in lots]


def narrow(least, most):
    """A table narrowed, or None if it gets empty; the two lists stay as they are."""
    # So many things have so many lots.
    many = len(least).bit_length() - 1
    least = list(least)
    most = list(most)
    while True:
        before = least + most
        _keep_steps(least, most, STEPS[many])
        _keep_pairs(least, most, PAIRS[many])
        # Least numbers only rise and most ones only fall, so what is empty within a round is so at its end.
        if True in [low > high for low, high in zip(least, most)]:
            return None
        if least + most == before:
            return least, most


def _keep_steps(least, most, steps):
    """Exchange the numbers that do not hold along some step."""
    for low, high in steps:
        if least[high] < least[low]:
            least[high] = least[low]
        elif least[low] < least[high] - 1:
            least[low] = least[high] - 1
        if most[low] > most[high]:
            most[low] = most[high]
        elif most[high] > most[low] + 1:
            most[high] = most[low] + 1


def _keep_pairs(least, most, pairs):
    """Exchange the numbers that do not hold at some pair."""
    for low, one, other, both in pairs:
        wanted = least[low] + least[both]
        spared = most[one] + most[other]
        if least[one] < wanted - most[other]:
            least[one] = wanted - most[other]
        if least[other] < wanted - most[one]:
            least[other] = wanted - most[one]
        if most[both] > spared - least[low]:
            most[both] = spared - least[low]
        if most[low] > spared - least[both]:
            most[low] = spared - least[both]


def cut_above(table, place, number):
    """The table in the first tree of a case: a lot counts at most the number."""
    least, most = table
    if number >= most[place]:
        return table
    if number < least[place]:
        return None
    return narrow(least, most[:place] + [number] + most[place + 1:])


def cut_below(table, place, number):
    """The table in the second tree of a case: a lot counts more than the number."""
    least, most = table
    if number < least[place]:
        return table
    if number >= most[place]:
        return None
    return narrow(least[:place] + [number + 1] + least[place + 1:], most)


def judge(least, most, claim):
    """True, False or None (open): what a claim is at a table; least and most are asked by what it has for lots."""
    word = claim[0]
    if word == "atleast":
        return _judge_atom(least, most, claim)
    if word == "not":
        inside = judge(least, most, claim[1])
        return None if inside is None else not inside
    # One part tells the whole if it is true in "some", or false in "all".
    telling = word == "some"
    answer = not telling
    for part in claim[1]:
        told = judge(least, most, part)
        if told == telling:
            return telling
        if told is None:
            answer = None
    return answer


def _judge_atom(least, most, atom):
    lot, other, number = atom[1:]
    if lot == other:
        return number <= 0
    if least[lot] - most[other] >= number:
        return True
    return False if most[lot] - least[other] < number else None


def is_closed(table, facts, claim):
    """Whether an end with this table is closed for a claim of a book with these facts."""
    if table is None:
        return True
    least, most = table
    if judge(least, most, claim) is True:
        return True
    return False in [judge(least, most, fact) for fact in facts]
