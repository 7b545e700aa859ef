"""A house written out for the tests: all is kept as it was said, all is gone through anew for each question."""

import itertools
import re

from lackcry.errors import (
    BadFile, BadHouse, BadWishes, ByDay, ByNight, NoFile, NoHand, NoSpares, Over,
)
from tests.helpers import by_differences, cry_by_words, led_lots, rank

NUMBER = r"(?:0|[1-9][0-9]{0,8})"


def is_plain_prime(n):
    return n > 1 and all(n % by for by in range(2, int(n ** 0.5) + 1))


class Plain:
    def __init__(self, hands, t, p):
        if type(hands) is not int or not 1 <= hands <= 6:
            raise BadHouse(hands)
        if type(t) is not int or not 0 <= t <= hands:
            raise BadHouse(t)
        if type(p) is not int or not 1 < p < 10 ** 9 or not is_plain_prime(p):
            raise BadHouse(p)
        self.hands, self.t, self.p = hands, t, p
        self.lots = list(itertools.combinations(range(hands), t))
        self.laid = {}
        self.next = 0
        self.gone = set()
        self.by_day = False
        self.wishes = None
        self.spares = 0
        self.then = {}
        self.cries = []
        self.log = []

    def night_only(self):
        if self.by_day:
            raise ByDay()

    def day_only(self):
        if not self.by_day:
            raise ByNight()

    def hand_only(self, thing):
        if type(thing) is not int or thing not in range(self.hands):
            raise NoHand(thing)

    def bring(self, file):
        self.night_only()
        if type(file) is not tuple or len(file) != len(self.lots):
            raise BadFile(file)
        if any(type(number) is not int or not 0 <= number < self.p for number in file):
            raise BadFile(file)
        self.laid[self.next] = file
        self.next += 1
        return self.next - 1

    def drop(self, number):
        self.night_only()
        if type(number) is not int or number not in self.laid:
            raise NoFile(number)
        del self.laid[number]

    def files(self):
        return tuple(sorted(self.laid))

    def shelf(self, hand):
        self.hand_only(hand)
        return tuple(
            (number, tuple(here if hand in lot else None for lot, here in zip(self.lots, self.laid[number])))
            for number in sorted(self.laid)
        )

    def day(self, wishes, *, spares=0):
        self.night_only()
        if type(wishes) is not tuple or len(wishes) != self.hands:
            raise BadWishes(wishes)
        if any(wish is not None and (type(wish) is not int or wish not in self.laid) for wish in wishes):
            raise BadWishes(wishes)
        if type(spares) is not int or not 0 <= spares <= 1000:
            raise NoSpares(spares)
        made = led_lots(self.t, wishes)
        if spares and len(made) + spares > self.p:
            raise NoSpares(spares)
        self.by_day = True
        self.wishes = wishes
        self.spares = spares
        self.then = {wish: self.laid[wish] for wish in wishes if wish is not None}
        self.cries = by_differences(self.p, [cry_by_words(self.p, self.then, wishes, lot) for lot in made], spares)
        self.log = []

    def hear(self, ears):
        self.day_only()
        if len(self.log) == len(self.cries):
            raise Over()
        self.log.append(ears)
        return self.cries[len(self.log) - 1]

    def call(self):
        return self.hear({hand for hand in range(self.hands) if hand not in self.gone})

    def lose(self):
        self.hear(set())

    def away(self, hand):
        self.hand_only(hand)
        new = hand not in self.gone
        self.gone.add(hand)
        return new

    def home(self, hand):
        self.hand_only(hand)
        new = hand in self.gone
        self.gone.discard(hand)
        return new

    def night(self):
        self.day_only()
        self.by_day = False
        return tuple(
            hand for hand in range(self.hands) if self.wishes[hand] is not None and None in self.pieces(hand)
        )

    def heard(self, hand):
        self.hand_only(hand)
        return tuple(number if hand in ears else None for number, ears in zip(self.cries, self.log))

    def rows_heard(self, hand, columns):
        """How many times each of these pieces is in each cry that the hand heard."""
        rows = []
        for lot in led_lots(self.t, self.wishes):
            row = dict.fromkeys(columns, 0)
            for place, other in enumerate(lot):
                key = (self.wishes[other], lot[:place] + lot[place + 1:])
                if key in row:
                    row[key] += (-1) ** place
            rows.append([row[key] for key in columns])
        if rows:
            rows = list(zip(*[by_differences(self.p, column, self.spares) for column in zip(*rows)]))
        else:
            rows = [[0] * len(columns)] * self.spares
        return [row for row, ears in zip(rows, self.log) if hand in ears]

    def pieces(self, hand):
        self.hand_only(hand)
        if self.wishes is None or self.wishes[hand] is None:
            return None
        columns = [(number, lot) for number in sorted(self.then) for lot in self.lots if hand not in lot]
        rows = self.rows_heard(hand, columns)
        ahead = rank(self.p, rows)
        told = []
        for lot, number in zip(self.lots, self.then[self.wishes[hand]]):
            alone = [int(key == (self.wishes[hand], lot)) for key in columns]
            known = hand in lot or rank(self.p, rows + [alone]) == ahead
            told.append(number if known else None)
        return tuple(told)

    def knows(self, hand):
        told = self.pieces(hand)
        return told is not None and None not in told

    def is_day(self):
        return self.by_day

    def __len__(self):
        return len(self.laid)

    def text(self):
        rows = ["house %d %d %d %d" % (self.hands, self.t, self.p, self.next)]
        for number in sorted(self.laid):
            rows.append("file %d %s" % (number, " ".join(map(str, self.laid[number]))))
        rows.append("away " + (" ".join(map(str, sorted(self.gone))) or "-"))
        if self.wishes is not None:
            rows.append("day" if self.by_day else "night")
            rows.append("spares %d" % self.spares)
            rows.append("wishes " + " ".join("-" if wish is None else str(wish) for wish in self.wishes))
            for number in sorted(self.then):
                rows.append("of %d %s" % (number, " ".join(map(str, self.then[number]))))
            for hand in range(self.hands):
                words = ["-" if number is None else str(number) for number in self.heard(hand)]
                rows.append(" ".join(["heard", str(hand)] + words))
        return "\n".join(rows)


def outcome(action):
    """What an action tells, or how it is refused, as a text."""
    try:
        return repr(action())
    except (ValueError, LookupError) as error:
        return "%s %r" % (type(error).__name__, vars(error))


def row_fits(pattern, row):
    """The numbers of a row of this form (N a number, W a number or the mark, .. once more or not), None of another."""
    if not re.fullmatch(pattern.replace("N", NUMBER).replace("W", "(?:-|%s)" % NUMBER), row):
        return None
    return [None if word == "-" else int(word) for word in re.findall(r"(?<= )(?:-|[0-9]+)", row)]


def first_wrong(text):
    """The first row that can't stand in a house's text, how many there are where rows lack; None of a house's text."""
    if type(text) is not str:
        return 0
    rows = text.split("\n")
    at = 0
    head = row_fits("house N N N N", rows[0])
    if head is None or not 1 <= head[0] <= 6 or head[1] > head[0] or not is_plain_prime(head[2]) or head[3] > 10 ** 6:
        return 0
    hands, t, p, coming = head
    many = len(list(itertools.combinations(range(hands), t)))

    def is_file(numbers):
        return numbers is not None and len(numbers) == many + 1 and max(numbers[1:]) < p

    there = []
    at = 1
    while at < len(rows) and rows[at].split(" ")[0] == "file":
        numbers = row_fits("file( N)+", rows[at])
        if not is_file(numbers) or numbers[0] >= coming or there and numbers[0] <= there[-1]:
            return at
        there.append(numbers[0])
        at += 1
    if at == len(rows):
        return at
    if rows[at] != "away -":
        numbers = row_fits("away( N)+", rows[at])
        if numbers is None or numbers != sorted(set(numbers)) or numbers[-1] >= hands:
            return at
    at += 1
    if at == len(rows):
        return None
    if rows[at] not in ("day", "night"):
        return at
    light = rows[at] == "day"
    at += 1
    spares = row_fits("spares N", rows[at]) if at < len(rows) else None
    if spares is None or spares[0] > 1000:
        return at
    at += 1
    wishes = row_fits("wishes( W)+", rows[at]) if at < len(rows) else None
    if wishes is None or len(wishes) != hands:
        return at
    numbers = sorted({wish for wish in wishes if wish is not None})
    if [number for number in numbers if number >= coming or light and number not in there]:
        return at
    made = len(led_lots(t, wishes))
    if spares[0] and spares[0] + made > p:
        return at
    for number in numbers:
        at += 1
        told = row_fits("of( N)+", rows[at]) if at < len(rows) else None
        if not is_file(told) or told[0] != number:
            return at
    size = None
    for hand in range(hands):
        at += 1
        told = row_fits("heard N( W)*", rows[at]) if at < len(rows) else None
        if told is None or told[0] != hand:
            return at
        if len(told) - 1 > made + spares[0] or max([number or 0 for number in told[1:]], default=0) >= p:
            return at
        if size is not None and len(told) != size:
            return at
        size = len(told)
    at += 1
    return None if at == len(rows) else at
