"""Outer sums: numbers of p at lots of one size."""

from lackcry.kinds import is_below, is_tuple_of
from lackcry.lots import is_lot
from lackcry.signs import laid


def is_outer(p, hands, grade, thing):
    """Whether it is an outer sum of this grade."""
    if not isinstance(thing, tuple):
        return False
    ahead = None
    for row in thing:
        if not is_row(p, hands, grade, row):
            return False
        if ahead is not None and row[0] <= ahead:
            return False
        ahead = row[0]
    return True


def is_row(p, hands, grade, thing):
    """Whether it could be one part of an outer sum."""
    if not is_tuple_of(2, thing):
        return False
    lot, number = thing
    return is_lot(hands, grade, lot) and is_below(p, number) and number > 0


def part(sum_, lot):
    """The lot's number, 0 where it has none."""
    for other, number in sum_:
        if other == lot:
            return number
    return 0


def gathered(p, rows):
    """The outer sum of these (lot, number), in any order, a lot perhaps many times."""
    numbers = {}
    for lot, number in rows:
        numbers[lot] = (numbers.get(lot, 0) + number) % p
    return tuple((lot, numbers[lot]) for lot in sorted(numbers) if numbers[lot])


def plus(p, one, other):
    """Both sums together, part by part."""
    return gathered(p, one + other)


def times(p, sum_, many):
    """The sum so many times."""
    return gathered(p, [(lot, number * many) for lot, number in sum_])


def outer(p, one, other):
    """The one laid ahead of the other, each part with each."""
    rows = []
    for ahead, number in one:
        for behind, worth in other:
            way, lot = laid(ahead, behind)
            if way != 0:
                rows.append((lot, way * number * worth))
    return gathered(p, rows)
