"""Signs of hands in lots, and lots laid together."""


def sign_of_many(many):
    """1 of an even number, -1 of an odd one."""
    return 1 if many % 2 == 0 else -1


def sign(hand, lot):
    """The sign of a hand of the lot."""
    return sign_of_many(len([other for other in lot if other < hand]))


def laid(one, other):
    """The sign and the lot of the hands of both, (0, ()) where they share one."""
    # Ahead of all else, since only here may other be a row that doesn't rise.
    if any([hand in one for hand in other]):
        return (0, ())
    crossed = sum([len([above for above in one if above > hand]) for hand in other])
    return (sign_of_many(crossed), tuple(sorted(one + other)))


def without(lot, hand):
    """The lot less this hand of it."""
    return tuple(other for other in lot if other != hand)


def with_hand(lot, hand):
    """The lot and a hand that it hasn't."""
    return tuple(sorted(lot + (hand,)))


def row_sign(row):
    """1 where evenly many pairs of a row of unlike hands have the greater one ahead, else -1."""
    crossed = sum([len([above for above in row[:place] if above > hand]) for place, hand in enumerate(row)])
    return sign_of_many(crossed)
