"""Texts of files, wishes, makings and houses, read."""

from lackcry.days import Day, are_spares, has_room
from lackcry.errors import BadHouse, NoText
from lackcry.files import is_file
from lackcry.house import House
from lackcry.rows import Rows, rows_of
from lackcry.sums import MOST_FILES, rises
from lackcry.wishes import wished
from lackcry.words import NOTHING, are_all_numbers, hands_in, is_mark, is_number, is_row_of_hands, number_in


def read_file(text):
    """The file that is so written."""
    return only_row(text, is_number)


def read_wishes(text):
    """The wishes that are so written."""
    return only_row(text, is_mark)


def only_row(text, fits):
    """The numbers of a text of one row, each word of which fits; None where the mark stands."""
    rows = rows_of(text)
    words = rows[0].split(" ")
    if not all([fits(word) for word in words]):
        raise NoText(0)
    if len(rows) > 1:
        raise NoText(1)
    return tuple(number_in(word) for word in words)


def read_making(text):
    """The making that is so written."""
    rows = rows_of(text)
    if text == "":
        return ()
    sums = []
    for at, row in enumerate(rows):
        parts = row.split(" ") if row != NOTHING else []
        if not all([is_part_text(part) for part in parts]):
            raise NoText(at)
        sum_ = tuple(part_in(part) for part in parts)
        if not rises([part[:2] for part in sum_]):
            raise NoText(at)
        sums.append(sum_)
    return tuple(sums)


def is_part_text(text):
    """Whether it is one part of a sum by its form, its lot rising, its number not 0."""
    words = text.split(":")
    if len(words) != 3 or not is_number(words[0]) or not is_row_of_hands(words[1]) or not is_number(words[2]):
        return False
    return rises(list(hands_in(words[1]))) and words[2] != "0"


def part_in(text):
    """The part that is so written."""
    number, lot, many = text.split(":")
    return (int(number), hands_in(lot), int(many))


def read_house(text):
    """The house that is so written."""
    rows = Rows(text)
    house = read_head(rows)
    read_stock(rows, house)
    read_away(rows, house)
    if rows.is_more():
        read_day(rows, house)
    rows.refuse_more()
    return house


def numbers_behind(rows, word):
    """The numbers of the next row behind this word; at least one."""
    words = rows.behind(word)
    rows.refuse_unless(len(words) > 0 and are_all_numbers(words))
    return [int(part) for part in words]


def read_head(rows):
    """The house of the first row, still empty."""
    numbers = numbers_behind(rows, "house")
    rows.refuse_unless(len(numbers) == 4 and numbers[-1] <= MOST_FILES)
    hands, t, p, coming = numbers
    try:
        house = House(hands, t, p)
    except BadHouse:
        raise NoText(rows.at) from None
    house.coming = coming
    return house


def numbered_file(rows, house, word):
    """The number and the file of the next row behind this word."""
    numbers = numbers_behind(rows, word)
    file = tuple(numbers[1:])
    rows.refuse_unless(is_file(house.p, house.hands, house.t, file))
    return (numbers[0], file)


def read_stock(rows, house):
    """The house's files, of the rows that begin so."""
    ahead = -1
    while rows.begins("file"):
        number, file = numbered_file(rows, house, "file")
        rows.refuse_unless(ahead < number < house.coming)
        house.stock[number] = file
        ahead = number


def read_away(rows, house):
    """Sends those of the next row away."""
    words = rows.behind("away")
    if words == [NOTHING]:
        return
    rows.refuse_unless(len(words) > 0 and are_all_numbers(words))
    gone = [int(word) for word in words]
    rows.refuse_unless(rises(gone) and gone[-1] < house.hands)
    house.gone = tuple(gone)


def read_day(rows, house):
    """The day, or the last one, of the rows to the end."""
    light = rows.begins("day")
    words = rows.behind("day" if light else "night")
    rows.refuse_unless(not words)
    house.light = light
    spares = numbers_behind(rows, "spares")
    rows.refuse_unless(len(spares) == 1 and are_spares(spares[0]))
    wishes = read_wishes_row(rows, house, spares[0])
    asked = {}
    for number in wished(wishes):
        there, file = numbered_file(rows, house, "of")
        rows.refuse_unless(there == number)
        asked[number] = file
    house.last = Day(house.p, house.t, wishes, spares[0], asked)
    read_heard(rows, house)


def marks_behind(rows, word):
    """The numbers of the next row behind this word, None where the mark stands; perhaps none at all."""
    words = rows.behind(word)
    rows.refuse_unless(all([is_mark(part) for part in words]))
    return tuple(number_in(part) for part in words)


def read_wishes_row(rows, house, spares):
    """The wishes of the next row."""
    wishes = marks_behind(rows, "wishes")
    rows.refuse_unless(len(wishes) == house.hands and all([may_wish(house, wish) for wish in wishes]))
    rows.refuse_unless(has_room(house.p, house.t, wishes, spares))
    return wishes


def may_wish(house, wish):
    """Whether a hand can wish this, or by night can have wished it: the file may have been dropped since."""
    if wish is None:
        return True
    return wish in house.stock if house.light else wish < house.coming


def read_heard(rows, house):
    """What each hand heard, of the rows to the end."""
    ears = []
    for hand in range(house.hands):
        numbers = marks_behind(rows, "heard")
        rows.refuse_unless(len(numbers) > 0 and numbers[0] == hand)
        row = numbers[1:]
        rows.refuse_unless(len(row) <= len(house.last.cried) and all([is_cry(house, number) for number in row]))
        rows.refuse_unless(hand == 0 or len(row) == len(ears[0]))
        ears.append(row)
    house.ears = tuple(ears)


def is_cry(house, number):
    """Whether a hand could have heard this, or missed it."""
    return number is None or number < house.p
