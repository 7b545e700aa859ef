"""Rows that bind: no cries that serve all hands are fewer than their rows."""

from lackcry.kinds import is_below, is_tuple_of, is_whole
from lackcry.lots import every_lot, is_lot, refuse_too_many
from lackcry.making import made
from lackcry.wishes import leaders


def binding(t, wishes):
    """For each leader, rising, all lots without it and the leaders ahead."""
    refuse_too_many(made(t, wishes))
    left = list(range(len(wishes)))
    rows = []
    for leader in leaders(wishes):
        left.remove(leader)
        rows.extend([(leader, wishes[leader], lot) for lot in lots_of(left, t)])
    return tuple(rows)


def lots_of(hands, size):
    """All lots of this size of these hands, which rise."""
    return [tuple(hands[place] for place in places) for places in every_lot(len(hands), size)]


def shows_binding(t, wishes, thing):
    """Whether it is a binding row."""
    if not isinstance(thing, tuple):
        return False
    ahead = {}
    seen = set()
    for row in thing:
        if not could_bind(t, wishes, row):
            return False
        hand, number, lot = row
        ahead[hand] = True
        if (number, lot) in seen or any([other in ahead for other in lot]):
            return False
        seen.add((number, lot))
    return True


def could_bind(t, wishes, thing):
    """Whether it is a hand, the number of the file that it wishes, and a lot of t hands."""
    if not is_tuple_of(3, thing):
        return False
    hand, number, lot = thing
    hands = len(wishes)
    return is_below(hands, hand) and is_whole(number) and number == wishes[hand] and is_lot(hands, t, lot)
