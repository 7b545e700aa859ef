"""What kind of thing something is."""


def is_whole(thing):
    """Whether it is a whole number: truths are ints to Python, but no numbers here."""
    return isinstance(thing, int) and not isinstance(thing, bool)


def is_below(bound, thing):
    """Whether it is a whole number from 0 to bound - 1."""
    return is_whole(thing) and 0 <= thing < bound
