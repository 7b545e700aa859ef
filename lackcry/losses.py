"""Spares: the row of numbers that goes through all cries goes on, so that lost ones can be told."""

from lackcry.errors import TooFew
from lackcry.solving import inverse


def product(p, numbers):
    """All numbers times one another."""
    total = 1
    for number in numbers:
        total = total * number % p
    return total


def shares(p, points):
    """For each point by what a number there is multiplied, that its part be that number there."""
    return [inverse(p, product(p, [point - other for other in points if other != point])) for point in points]


def parts_at(p, points, numbers):
    """The numbers at these points, as value_at takes them."""
    return [number * share % p for number, share in zip(numbers, shares(p, points))]


def value_at(p, points, parts, x):
    """At x the value of the row whose values at the points are known.

    It is the sum, over the points, of each one's part times the ways from all other points to x.
    """
    total = 0
    ways = 1
    for point, part in zip(points, parts):
        total = (total * (x - point) + part * ways) % p
        ways = ways * (x - point) % p
    return total


def spare(p, cries, j):
    """The spare of this number."""
    return spares_from(p, cries, [j])[0]


def spares_from(p, cries, numbers):
    """The spares of these numbers."""
    many = len(cries)
    points = list(range(many))
    parts = parts_at(p, points, cries)
    return [value_at(p, points, parts, many + j) for j in numbers]


def spare_weights(p, m, j):
    """How many times each of m cries is in the spare of this number."""
    points = list(range(m))
    told = []
    for point, share in zip(points, shares(p, points)):
        alone = [share if other == point else 0 for other in points]
        told.append(value_at(p, points, alone, m + j))
    return told


def with_spares(p, cries, many):
    """The cries and so many spares."""
    return tuple(cries) + tuple(spares_from(p, cries, list(range(many))))


def restored(p, m, heard):
    """The m cries, where as many of them and of the spares came."""
    came = [place for place, number in enumerate(heard) if number is not None]
    if len(came) < m:
        raise TooFew(len(came))
    if came[:m] == list(range(m)):
        return tuple(heard[:m])
    points = came[:m]
    parts = parts_at(p, points, [heard[point] for point in points])
    return tuple(value_at(p, points, parts, place) for place in range(m))
