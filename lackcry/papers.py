"""Papers that show that cries are enough, or that they are not."""

from lackcry.hearing import Hearing, first_lack, lots_without, wishing
from lackcry.kinds import are_numbers, is_below, is_tuple_of, is_whole
from lackcry.lots import is_lot
from lackcry.sums import is_sum


def enough(p, t, wishes, making):
    """For each hand that wishes and each piece that it lacks the weights that tell it; None where some hand can't."""
    rows = []
    for hand in wishing(wishes):
        hearing = Hearing(p, t, wishes, hand, making)
        for lot in lots_without(t, wishes, hand):
            weights = hearing.weights(lot)
            if weights is None:
                return None
            rows.append((hand, lot, weights))
    return tuple(rows)


def shows_enough(p, t, wishes, making, thing):
    """Whether it is such a tuple, its weights perhaps others that do as well."""
    needs = [(hand, lot) for hand in wishing(wishes) for lot in lots_without(t, wishes, hand)]
    if not is_tuple_of(len(needs), thing):
        return False
    return all([tells(p, t, wishes, making, need, row) for need, row in zip(needs, thing)])


def tells(p, t, wishes, making, need, thing):
    """Whether it is a row for this hand and lot, whose weights leave of the sums just that piece."""
    if not is_tuple_of(3, thing):
        return False
    hand, lot, weights = thing
    # Kinds are asked for too: to Python True is 1.
    if not is_whole(hand) or not is_lot(len(wishes), t, lot) or (hand, lot) != need:
        return False
    if not are_numbers(p, len(making), weights):
        return False
    return weighed(p, hand, making, weights) == {(wishes[hand], lot): 1}


def weighed(p, hand, making, weights):
    """A dict of what the sums, each so many times, have of pieces that the hand lacks."""
    totals = {}
    for sum_, weight in zip(making, weights):
        for number, lot, many in sum_:
            if hand not in lot:
                totals[(number, lot)] = (totals.get((number, lot), 0) + weight * many) % p
    return {key: totals[key] for key in totals if totals[key]}


def alike(p, t, wishes, making):
    """The first hand that can't tell its file, and a change that it can't hear; None where all can."""
    found = first_lack(p, t, wishes, making)
    if found is None:
        return None
    hand, lot, change = found
    return (hand, change)


def shows_alike(p, t, wishes, making, thing):
    """Whether it is such a hand and change."""
    if not is_tuple_of(2, thing):
        return False
    hand, change = thing
    if not is_below(len(wishes), hand) or wishes[hand] is None or not is_sum(p, len(wishes), t, change):
        return False
    own = [number == wishes[hand] for number, lot, many in change]
    had = [hand in lot for number, lot, many in change]
    return any(own) and not any(had) and not any([moves(p, change, sum_) for sum_ in making])


def moves(p, change, sum_):
    """Whether the sum comes to something else by the change."""
    by = {(number, lot): many for number, lot, many in change}
    return sum([many * by.get((number, lot), 0) for number, lot, many in sum_]) % p != 0
