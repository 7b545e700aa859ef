"""Lots of hands, and their numbers."""

from lackcry.errors import NoNumber, TooMany
from lackcry.kinds import is_below, is_tuple_of

MOST_TOLD = 2000


def choose(n, k):
    """How many lots of k hands n hands have."""
    if k < 0 or k > n:
        return 0
    many = 1
    for step in range(min(k, n - k)):
        # Never a rest: the product so far is itself a number of lots.
        many = many * (n - step) // (step + 1)
    return many


def is_lot(hands, size, thing):
    """Whether it is a lot of so many of these hands."""
    if not is_tuple_of(size, thing):
        return False
    least = 0
    for hand in thing:
        if not is_below(hands, hand) or hand < least:
            return False
        least = hand + 1
    return True


def lot_at(hands, size, number):
    """The so-manieth lot of this size."""
    if not is_below(choose(hands, size), number):
        raise NoNumber(number)
    lot = []
    ahead = number
    for hand in range(hands):
        # Of the lots that begin as told so far, those that go on with this hand stand first.
        many = choose(hands - hand - 1, size - len(lot) - 1)
        if ahead < many:
            lot.append(hand)
        else:
            ahead -= many
    return tuple(lot)


def number_of(hands, lot):
    """The lot's number among those of its size."""
    size = len(lot)
    # A lot behind this one first differs at some place, and from there on has greater hands only.
    behind = sum([choose(hands - hand - 1, size - place) for place, hand in enumerate(lot)])
    return choose(hands, size) - 1 - behind


def refuse_too_many(many):
    """Nothing, but where so many are more than are told at once."""
    if many > MOST_TOLD:
        raise TooMany(many)


def lots(hands, size):
    """All lots of this size, rising."""
    refuse_too_many(choose(hands, size))
    return every_lot(hands, size)


def every_lot(hands, size):
    """All lots of this size, rising, however many: those who go through files refuse none for its length."""
    rows = [()]
    for place in range(size):
        # A hand is left out where too few greater ones would be left, so no row is ever in vain.
        end = hands - size + place + 1
        rows = [lot + (hand,) for lot in rows for hand in range(first_after(lot), end)]
    return tuple(rows)


def first_after(lot):
    """The least hand that may stand behind these."""
    return lot[-1] + 1 if lot else 0
