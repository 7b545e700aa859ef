"""What several tests need: things of any kind, drawn numbers, and a count of steps."""

import itertools
import random
import sys

# The greatest primes below 10 ** 9 are the last two.
PRIMES = (2, 3, 5, 7, 101, 999999929, 999999937)
STEPS = 10000


def nested(inner, deep, wrap):
    """The inner thing, wrapped so many times."""
    for _ in range(deep):
        inner = wrap(inner)
    return inner


# None of these is a whole number from 0 on.
NO_NUMBERS = (
    None, True, False, -1, -2, -(10 ** 30),
    "", "0", "1", "(0,)", "\n", "a b",
    (), (0,), (0, 1), ((0,),), (None,), (True,), ((), ()),
    [], [0], [0, 1], [[0]], {}, {0: 1}, {"a": [1]}, {(0, 1): None},
    nested(0, 30, lambda thing: (thing,)),
    nested(0, 30, lambda thing: [thing]),
    nested(0, 30, lambda thing: {0: thing}),
)


def same_kind(one, other):
    """Whether both are equal through and through, a truth being no number."""
    return repr(one) == repr(other)


# Whatever the kind, so that nothing of it is a lot, a number, a file or wishes; each nested in each.
ANYTHING = NO_NUMBERS + tuple(
    wrap(thing)
    for thing in NO_NUMBERS
    for wrap in (
        lambda t: (t,), lambda t: [t], lambda t: {"a": t}, lambda t: (0, t), lambda t: (t, 1), lambda t: (t, t),
    )
)


def drawn(*seed):
    """A source of numbers that is the same in each run."""
    return random.Random(repr(seed))


def drawn_file(source, p, many):
    """So many numbers of p, noughts among them."""
    return tuple(source.choice((0, 1 % p, p - 1, source.randrange(p), source.randrange(p))) for _ in range(many))


def drawn_wishes(source, hands, numbers):
    """Wishes for these files; some hands perhaps wish none."""
    kinds = source.choice((numbers, numbers + (None,), numbers[:1] + (None,), numbers[:1], numbers + (None,) * hands))
    return tuple(source.choice(kinds) for _ in range(hands))


def drawn_lot(source, hands, size):
    """A lot of so many of these hands."""
    return tuple(sorted(source.sample(range(hands), size)))


def few_wishes(most):
    """Wishes of one to so many hands: of few hands all for three files, of more many kinds and drawn ones."""
    source = drawn("few wishes", most)
    numbers = (4, 0, 999999)
    for hands in range(1, most + 1):
        if hands <= 3:
            yield from itertools.product(numbers + (None,), repeat=hands)
            continue
        yield (None,) * hands
        yield (7,) * hands
        yield tuple(range(hands))
        yield tuple(range(hands, 0, -1))
        yield (None,) * (hands - 1) + (3,)
        yield (3,) + (None,) * (hands - 1)
        yield tuple(hand % 2 for hand in range(hands))
        yield tuple((hands - hand) // 2 for hand in range(hands))
        for _ in range(6):
            yield drawn_wishes(source, hands, tuple(source.sample(range(9), source.randrange(1, hands))))


def sixty_wishes():
    """Wishes of sixty hands, of many kinds; somebody wishes."""
    source = drawn("sixty wishes")
    yield (7,) * 60
    yield tuple(range(60))
    yield tuple(range(60, 0, -1))
    yield (None,) * 59 + (3,)
    yield (3,) + (None,) * 59
    yield (None,) * 30 + tuple(range(30))
    yield tuple(hand % 2 for hand in range(60))
    yield tuple(hand // 2 for hand in range(60))
    yield tuple(hand % 29 if hand % 3 else None for hand in range(60))
    for kinds in (1, 2, 5, 20, 50):
        numbers = tuple(source.sample(range(10 ** 6), kinds))
        yield tuple(source.choice(numbers + (None,)) for _ in range(59)) + numbers[:1]


def files_for(source, p, wishes, many):
    """For each wished number a drawn file of so many pieces, in a dict."""
    return {wish: drawn_file(source, p, many) for wish in wishes if wish is not None}


def led_by(wishes):
    """The leaders, as a set: each hand whose wish no hand ahead has."""
    return {hand for hand, wish in enumerate(wishes) if wish is not None and wish not in wishes[:hand]}


def led_lots(t, wishes):
    """All lots of t + 1 hands that have a leader, gone through."""
    leads = led_by(wishes)
    return [lot for lot in itertools.combinations(range(len(wishes)), t + 1) if leads & set(lot)]


def cry_by_words(p, files, wishes, lot):
    """The cry of a lot, as point 14 says it, by going through all lots of one hand fewer."""
    every = list(itertools.combinations(range(len(wishes)), len(lot) - 1))
    total = 0
    for place, hand in enumerate(lot):
        if wishes[hand] is not None:
            total += (-1) ** place * files[wishes[hand]][every.index(lot[:place] + lot[place + 1:])]
    return total % p


def files_with(p, t, wishes, numbers):
    """Files whose made cries are these numbers, whichever they are.

    Of each made lot just the piece that its least leader lacks is chosen; all others are 0. By rising leaders no
    choice changes an earlier cry: a lot's other pieces that aren't 0 belong to leaders ahead.
    """
    every = list(itertools.combinations(range(len(wishes)), t))
    files = {wish: [0] * len(every) for wish in wishes if wish is not None}
    rows = list(zip(led_lots(t, wishes), numbers))
    for leader in sorted(led_by(wishes)):
        for lot, number in rows:
            if min(led_by(wishes) & set(lot)) == leader:
                place = lot.index(leader)
                left = number - cry_by_words(p, files, wishes, lot)
                files[wishes[leader]][every.index(lot[:place] + lot[place + 1:])] = (-1) ** place * left % p
    return {wish: tuple(file) for wish, file in files.items()}


def on_shelf(hands, t, hand, file):
    """The file as the hand has it, by going through all lots."""
    every = itertools.combinations(range(hands), t)
    return tuple(number if hand in lot else None for lot, number in zip(every, file))


def rank(p, rows):
    """How many of the rows don't hang on those ahead."""
    left = [[number % p for number in row] for row in rows]
    many = 0
    while left:
        row = left.pop()
        place = next((at for at, number in enumerate(row) if number), None)
        if place is None:
            continue
        many += 1
        back = pow(row[place], -1, p)
        left = [
            [(number - other[place] * back * here) % p for number, here in zip(other, row)] for other in left
        ]
    return many


def parity(row):
    """1 or -1, as evenly many exchanges of neighbours sort the row, by doing them."""
    row = list(row)
    told = 1
    for end in range(len(row), 0, -1):
        for at in range(end - 1):
            if row[at] > row[at + 1]:
                row[at], row[at + 1] = row[at + 1], row[at]
                told = -told
    return told


def line_steps(action):
    """How many lines run while the action does."""
    many = 0

    def trace(frame, event, arg):
        nonlocal many
        if event == "line":
            many += 1
        return trace

    before = sys.gettrace()
    sys.settrace(trace)
    try:
        action()
    finally:
        sys.settrace(before)
    return many
