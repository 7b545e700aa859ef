"""Sums of pieces: rising tuples of (number of a file, lot, number of p but 0)."""

from lackcry.kinds import is_below, is_tuple_of
from lackcry.lots import is_lot

MOST_FILES = 10 ** 6


def is_sum(p, hands, t, thing):
    """Whether it is a sum of pieces of lots of t hands, no piece twice."""
    if not isinstance(thing, tuple) or not all([is_part(p, hands, t, part) for part in thing]):
        return False
    return rises([part[:2] for part in thing])


def is_part(p, hands, t, thing):
    """Whether it could be one part of a sum."""
    if not is_tuple_of(3, thing):
        return False
    number, lot, many = thing
    return is_below(MOST_FILES, number) and is_lot(hands, t, lot) and is_below(p, many) and many > 0


def rises(row):
    """Whether each thing of a list is above the one ahead."""
    return row == sorted(set(row))
