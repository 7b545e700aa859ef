"""What several tests need: things of any kind, drawn numbers, and a count of steps."""

import itertools
import random
import sys

# The greatest primes below 10 ** 9 are the last two.
PRIMES = (2, 3, 5, 7, 101, 999999929, 999999937)
STEPS = 10000


def nested(inner, deep, wrap):
    """The inner thing, wrapped so many times."""
    for _ in range(deep):
        inner = wrap(inner)
    return inner


# None of these is a whole number from 0 on.
NO_NUMBERS = (
    None, True, False, -1, -2, -(10 ** 30),
    "", "0", "1", "(0,)", "\n", "a b",
    (), (0,), (0, 1), ((0,),), (None,), (True,), ((), ()),
    [], [0], [0, 1], [[0]], {}, {0: 1}, {"a": [1]}, {(0, 1): None},
    nested(0, 30, lambda thing: (thing,)),
    nested(0, 30, lambda thing: [thing]),
    nested(0, 30, lambda thing: {0: thing}),
)


def same_kind(one, other):
    """Whether both are equal through and through, a truth being no number."""
    return repr(one) == repr(other)


# Whatever the kind, so that nothing of it is a lot, a number, a file or wishes; each nested in each.
ANYTHING = NO_NUMBERS + tuple(
    wrap(thing)
    for thing in NO_NUMBERS
    for wrap in (
        lambda t: (t,), lambda t: [t], lambda t: {"a": t}, lambda t: (0, t), lambda t: (t, 1), lambda t: (t, t),
    )
)


def drawn(*seed):
    """A source of numbers that is the same in each run."""
    return random.Random(repr(seed))


def drawn_file(source, p, many):
    """So many numbers of p, noughts among them."""
    return tuple(source.choice((0, 1 % p, p - 1, source.randrange(p), source.randrange(p))) for _ in range(many))


def drawn_wishes(source, hands, numbers):
    """Wishes for these files; some hands perhaps wish none."""
    kinds = source.choice((numbers, numbers + (None,), numbers[:1] + (None,), numbers[:1], numbers + (None,) * hands))
    return tuple(source.choice(kinds) for _ in range(hands))


def drawn_lot(source, hands, size):
    """A lot of so many of these hands."""
    return tuple(sorted(source.sample(range(hands), size)))


def few_wishes(most):
    """Wishes of one to so many hands: of few hands all for three files, of more many kinds and drawn ones."""
    source = drawn("few wishes", most)
    numbers = (4, 0, 999999)
    for hands in range(1, most + 1):
        if hands <= 3:
            yield from itertools.product(numbers + (None,), repeat=hands)
            continue
        yield (None,) * hands
        yield (7,) * hands
        yield tuple(range(hands))
        yield tuple(range(hands, 0, -1))
        yield (None,) * (hands - 1) + (3,)
        yield (3,) + (None,) * (hands - 1)
        yield tuple(hand % 2 for hand in range(hands))
        yield tuple((hands - hand) // 2 for hand in range(hands))
        for _ in range(6):
            yield drawn_wishes(source, hands, tuple(source.sample(range(9), source.randrange(1, hands))))


def sixty_wishes():
    """Wishes of sixty hands, of many kinds; somebody wishes."""
    source = drawn("sixty wishes")
    yield (7,) * 60
    yield tuple(range(60))
    yield tuple(range(60, 0, -1))
    yield (None,) * 59 + (3,)
    yield (3,) + (None,) * 59
    yield (None,) * 30 + tuple(range(30))
    yield tuple(hand % 2 for hand in range(60))
    yield tuple(hand // 2 for hand in range(60))
    yield tuple(hand % 29 if hand % 3 else None for hand in range(60))
    for kinds in (1, 2, 5, 20, 50):
        numbers = tuple(source.sample(range(10 ** 6), kinds))
        yield tuple(source.choice(numbers + (None,)) for _ in range(59)) + numbers[:1]


def files_for(source, p, wishes, many):
    """For each wished number a drawn file of so many pieces, in a dict."""
    return {wish: drawn_file(source, p, many) for wish in wishes if wish is not None}


def led_by(wishes):
    """The leaders, as a set: each hand whose wish no hand ahead has."""
    return {hand for hand, wish in enumerate(wishes) if wish is not None and wish not in wishes[:hand]}


def led_lots(t, wishes):
    """All lots of t + 1 hands that have a leader, gone through."""
    leads = led_by(wishes)
    return [lot for lot in itertools.combinations(range(len(wishes)), t + 1) if leads & set(lot)]


def cry_by_words(p, files, wishes, lot):
    """The cry of a lot, as point 14 says it, by going through all lots of one hand fewer."""
    every = list(itertools.combinations(range(len(wishes)), len(lot) - 1))
    total = 0
    for place, hand in enumerate(lot):
        if wishes[hand] is not None:
            total += (-1) ** place * files[wishes[hand]][every.index(lot[:place] + lot[place + 1:])]
    return total % p


def files_with(p, t, wishes, numbers):
    """Files whose made cries are these numbers, whichever they are.

    Of each made lot just the piece that its least leader lacks is chosen; all others are 0. By rising leaders no
    choice changes an earlier cry: a lot's other pieces that aren't 0 belong to leaders ahead.
    """
    every = list(itertools.combinations(range(len(wishes)), t))
    files = {wish: [0] * len(every) for wish in wishes if wish is not None}
    rows = list(zip(led_lots(t, wishes), numbers))
    for leader in sorted(led_by(wishes)):
        for lot, number in rows:
            if min(led_by(wishes) & set(lot)) == leader:
                place = lot.index(leader)
                left = number - cry_by_words(p, files, wishes, lot)
                files[wishes[leader]][every.index(lot[:place] + lot[place + 1:])] = (-1) ** place * left % p
    return {wish: tuple(file) for wish, file in files.items()}


def on_shelf(hands, t, hand, file):
    """The file as the hand has it, by going through all lots."""
    every = itertools.combinations(range(hands), t)
    return tuple(number if hand in lot else None for lot, number in zip(every, file))


def rank(p, rows):
    """How many of the rows don't hang on those ahead."""
    left = [[number % p for number in row] for row in rows]
    many = 0
    while left:
        row = left.pop()
        place = next((at for at, number in enumerate(row) if number), None)
        if place is None:
            continue
        many += 1
        back = pow(row[place], -1, p)
        left = [
            [(number - other[place] * back * here) % p for number, here in zip(other, row)] for other in left
        ]
    return many


def parity(row):
    """1 or -1, as evenly many exchanges of neighbours sort the row, by doing them."""
    row = list(row)
    told = 1
    for end in range(len(row), 0, -1):
        for at in range(end - 1):
            if row[at] > row[at + 1]:
                row[at], row[at + 1] = row[at + 1], row[at]
                told = -told
    return told


def line_steps(action):
    """How many lines run while the action does."""
    many = 0

    def trace(frame, event, arg):
        nonlocal many
        if event == "line":
            many += 1
        return trace

    before = sys.gettrace()
    sys.settrace(trace)
    try:
        action()
    finally:
        sys.settrace(before)
    return many


def spoilt(thing):
    """The thing with something in it otherwise: each place of it, however deep, once of another kind or worth."""
    if isinstance(thing, tuple):
        yield list(thing)
        yield {place: part for place, part in enumerate(thing)}
        yield repr(thing)
        for place, part in enumerate(thing):
            ahead, behind = thing[:place], thing[place + 1:]
            yield ahead + behind
            yield ahead + (part, part) + behind
            yield ahead + (None,) + behind
            for other in spoilt(part):
                yield ahead + (other,) + behind
    elif isinstance(thing, int):
        yield from (-1, thing - 1, thing + 1, str(thing), (thing,), [thing], bool(thing), True, False, None, 10 ** 30)


def words_making(p, t, wishes):
    """The making of the made cries, as points 14 and 23 say it."""
    told = []
    for lot in led_lots(t, wishes):
        parts = [
            (wishes[hand], lot[:place] + lot[place + 1:], (-1) ** place % p)
            for place, hand in enumerate(lot) if wishes[hand] is not None
        ]
        told.append(tuple(sorted(parts)))
    return tuple(told)


def as_sum(p, numbers):
    """The rising sum of these numbers by (file, lot), noughts left out."""
    return tuple((*key, numbers[key] % p) for key in sorted(numbers) if numbers[key] % p)


def mixed(source, p, making, many):
    """So many drawn sums of the making's sums."""
    told = []
    for _ in range(many):
        numbers = {}
        for sum_ in making:
            weight = source.randrange(p)
            for number, lot, times in sum_:
                numbers[number, lot] = numbers.get((number, lot), 0) + weight * times
        told.append(as_sum(p, numbers))
    return tuple(told)


def any_sum(source, p, keys):
    """A drawn sum of a few of these (file, lot)."""
    few = source.sample(keys, source.randrange(min(len(keys), 5) + 1))
    return as_sum(p, {key: source.randrange(p) for key in few})


def makings(source, p, t, wishes):
    """Makings of many kinds for these wishes, those that serve all hands and those that don't."""
    own = words_making(p, t, wishes)
    every = list(itertools.combinations(range(len(wishes)), t))
    numbers = sorted({wish for wish in wishes if wish is not None})
    keys = [(number, lot) for number in numbers for lot in every]
    more = keys + [(number, lot) for number in (123, 999999 if 999999 not in numbers else 999998) for lot in every]
    yield own
    yield own[::-1]
    yield ()
    yield ((),)
    yield mixed(source, p, own, len(own))
    yield mixed(source, p, own, len(own) + 2)
    for at in {0, len(own) // 2, len(own) - 1} if own else ():
        yield own[:at] + own[at + 1:]
        yield own[:at] + ((),) + own[at:]
        yield own[:at] + (any_sum(source, p, keys),) + own[at + 1:]
        yield own[:at] + (any_sum(source, p, more),) + own[at:]
    yield tuple(tuple((number, lot, 1) for number, lot, _ in sum_) for sum_ in own)
    yield tuple(((number, lot, 1),) for number, lot in keys)
    yield tuple(((number, lot, p - 1),) for number, lot in keys[1:])
    yield tuple(any_sum(source, p, keys) for _ in range(len(own) + 1))
    yield tuple(any_sum(source, p, more) for _ in range(3))
    # Pieces laid over those of a file that nobody wishes are worth nothing; but both it and they, something.
    yield tuple(tuple(sorted(sum_ + ((123, every[0], 1),))) for sum_ in own)
    yield own[:1] + tuple(tuple(sorted(sum_ + ((123, every[-1], 1),))) for sum_ in own)
    yield (((123, every[-1], 1),),) + tuple(tuple(sorted(sum_ + ((123, every[-1], 1),))) for sum_ in own)


def by_differences(p, cries, many):
    """The cries and so many spares: the last of the differences of differences stays as it is."""
    if not cries:
        return (0,) * many
    ends = []
    row = list(cries)
    while row:
        ends.append(row[-1])
        row = [(after - ahead) % p for ahead, after in zip(row, row[1:])]
    told = list(cries)
    for _ in range(many):
        for place in range(len(ends) - 2, -1, -1):
            ends[place] = (ends[place] + ends[place + 1]) % p
        told.append(ends[0])
    return tuple(told)
