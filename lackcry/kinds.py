"""What kind of thing something is."""


def is_whole(thing):
    """Whether it is a whole number: truths are ints to Python, but no numbers here."""
    return isinstance(thing, int) and not isinstance(thing, bool)


def is_below(bound, thing):
    """Whether it is a whole number from 0 to bound - 1."""
    return is_whole(thing) and 0 <= thing < bound


def is_tuple_of(size, thing):
    """Whether it is a tuple of so many things."""
    return isinstance(thing, tuple) and len(thing) == size


def are_numbers(p, many, thing):
    """Whether it is a tuple of so many numbers of p."""
    return is_tuple_of(many, thing) and all([is_below(p, number) for number in thing])
