"""Rows of numbers of p, brought down by one another."""


def inverse(p, number):
    """By which number of p this one, no rest of it 0, comes to 1."""
    high, low = p, number % p
    above, below = 0, 1
    while low > 1:
        # At each step low is number times below, but for a multiple of p.
        many = high // low
        high, low = low, high - many * low
        above, below = below, above - many * below
    return below % p


def scaled(p, row, many):
    """The row so many times."""
    return [number * many % p for number in row]


def less(p, row, other, many):
    """The row less the other so many times."""
    return [(number - many * out) % p for number, out in zip(row, other)]


def cleared(p, rows, pivot, column):
    """The rows, this column brought to 0 in each by the pivot row, whose number there is 1."""
    return [less(p, row, pivot, row[column]) if row[column] else row for row in rows]


def first_with(rows, column):
    """The place of the first row that has no 0 in this column, None where there is none."""
    for place, row in enumerate(rows):
        if row[column]:
            return place
    return None


def reduced(p, rows, columns):
    """Rows with the same sums as these, none in vain, brought down in their first so many columns.

    Each has a 1 in a column of its own, in which all others have 0, and only 0 ahead of it.
    What stands behind these columns goes along.
    """
    left = [scaled(p, row, 1) for row in rows]
    done = []
    for column in range(columns):
        place = first_with(left, column)
        if place is None:
            continue
        pivot = scaled(p, left[place], inverse(p, left[place][column]))
        left = cleared(p, left[:place] + left[place + 1:], pivot, column)
        done = cleared(p, done, pivot, column) + [pivot]
    return done
