"""What several tests need: things of any kind, drawn numbers, and a count of steps."""

import random
import sys

# The greatest primes below 10 ** 9 are the last two.
PRIMES = (2, 3, 5, 7, 101, 999999929, 999999937)
STEPS = 10000


def nested(inner, deep, wrap):
    """The inner thing, wrapped so many times."""
    for _ in range(deep):
        inner = wrap(inner)
    return inner


# None of these is a whole number from 0 on.
NO_NUMBERS = (
    None, True, False, -1, -2, -(10 ** 30),
    "", "0", "1", "(0,)", "\n", "a b",
    (), (0,), (0, 1), ((0,),), (None,), (True,), ((), ()),
    [], [0], [0, 1], [[0]], {}, {0: 1}, {"a": [1]}, {(0, 1): None},
    nested(0, 30, lambda thing: (thing,)),
    nested(0, 30, lambda thing: [thing]),
    nested(0, 30, lambda thing: {0: thing}),
)


def same_kind(one, other):
    """Whether both are equal through and through, a truth being no number."""
    return repr(one) == repr(other)


# Whatever the kind, so that nothing of it is a lot, a number, a file or wishes; each nested in each.
ANYTHING = NO_NUMBERS + tuple(
    wrap(thing)
    for thing in NO_NUMBERS
    for wrap in (lambda t: (t,), lambda t: [t], lambda t: {"a": t}, lambda t: (0, t), lambda t: (t, 1), lambda t: (t, t))
)


def drawn(*seed):
    """A source of numbers that is the same in each run."""
    return random.Random(repr(seed))


def drawn_file(source, p, many):
    """So many numbers of p, noughts among them."""
    return tuple(source.choice((0, 1 % p, p - 1, source.randrange(p), source.randrange(p))) for _ in range(many))


def drawn_wishes(source, hands, numbers):
    """Wishes for these files; some hands perhaps wish none."""
    kinds = source.choice((numbers, numbers + (None,), numbers[:1] + (None,), numbers[:1], numbers + (None,) * hands))
    return tuple(source.choice(kinds) for _ in range(hands))


def drawn_lot(source, hands, size):
    """A lot of so many of these hands."""
    return tuple(sorted(source.sample(range(hands), size)))


def parity(row):
    """1 or -1, as evenly many exchanges of neighbours sort the row, by doing them."""
    row = list(row)
    told = 1
    for end in range(len(row), 0, -1):
        for at in range(end - 1):
            if row[at] > row[at + 1]:
                row[at], row[at + 1] = row[at + 1], row[at]
                told = -told
    return told


def line_steps(action):
    """How many lines run while the action does."""
    many = 0

    def trace(frame, event, arg):
        nonlocal many
        if event == "line":
            many += 1
        return trace

    before = sys.gettrace()
    sys.settrace(trace)
    try:
        action()
    finally:
        sys.settrace(before)
    return many
