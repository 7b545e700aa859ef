"""What several tests need: things of any kind, and a count of steps."""

import sys


def nested(inner, deep, wrap):
    """The inner thing, wrapped so many times."""
    for _ in range(deep):
        inner = wrap(inner)
    return inner


# None of these is a whole number from 0 on.
NO_NUMBERS = (
    None, True, False, -1, -2, -(10 ** 30),
    "", "0", "1", "(0,)", "\n", "a b",
    (), (0,), (0, 1), ((0,),), (None,), (True,), ((), ()),
    [], [0], [0, 1], [[0]], {}, {0: 1}, {"a": [1]}, {(0, 1): None},
    nested(0, 30, lambda thing: (thing,)),
    nested(0, 30, lambda thing: [thing]),
    nested(0, 30, lambda thing: {0: thing}),
)


def same_kind(one, other):
    """Whether both are equal through and through, a truth being no number."""
    return repr(one) == repr(other)


def line_steps(action):
    """How many lines run while the action does."""
    many = 0

    def trace(frame, event, arg):
        nonlocal many
        if event == "line":
            many += 1
        return trace

    before = sys.gettrace()
    sys.settrace(trace)
    try:
        action()
    finally:
        sys.settrace(before)
    return many
