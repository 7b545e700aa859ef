"""Files, and their pieces by lots."""

from lackcry.kinds import are_numbers
from lackcry.lots import choose, every_lot, number_of


def is_prime(n):
    """Whether it is a prime."""
    if n < 2:
        return False
    if n % 2 == 0:
        return n == 2
    by = 3
    while by * by <= n:
        if n % by == 0:
            return False
        by += 2
    return True


def is_file(p, hands, t, thing):
    """Whether it is a file: for each lot of t hands a number of p."""
    return are_numbers(p, choose(hands, t), thing)


def piece(hands, file, lot):
    """The file's piece of the lot."""
    return file[number_of(hands, lot)]


def spread(p, hands, t, file):
    """The outer sum whose parts the file's pieces are."""
    return tuple((lot, number % p) for lot, number in zip(every_lot(hands, t), file) if number % p)
