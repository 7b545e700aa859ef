"""A desk: lines said to a house."""

from lackcry.cries import comes_by
from lackcry.errors import NoFile, NoLine, NoLot, NoNumber, NoWish
from lackcry.lots import is_lot
from lackcry.making import made, made_at
from lackcry.reading import read_house
from lackcry.showing import show_house
from lackcry.words import hands_in, is_mark, is_number, is_row_of_hands, number_in, shown, shown_lot, shown_row

# The words behind the first one: n a number, w a number or the mark, l a lot; + once or more often.
FORMS = {
    "bring": "n+", "drop": "n", "day": "nw+", "call": "", "lose": "", "away": "n", "home": "n", "night": "",
    "files": "", "shelf": "nn", "heard": "n", "pieces": "n", "knows": "n", "made": "", "cry": "n", "brings": "nl",
    "text": "",
}


def form_for(word, many):
    """For each of so many words behind this first one what it must be; None where they can't be so many."""
    if word not in FORMS:
        return None
    form = FORMS[word]
    if form.endswith("+"):
        each = form[:-1]
        form = each + each[-1] * (many - len(each))
    return form if len(form) == many else None


def fits(kind, word):
    """Whether a word is of this kind by its form."""
    if kind == "n":
        return is_number(word)
    return is_mark(word) if kind == "w" else is_row_of_hands(word)


def value_in(kind, word):
    """What a word of this kind says."""
    return hands_in(word) if kind == "l" else number_in(word)


def yes_or_no(truth):
    """The word for a truth."""
    return "yes" if truth else "no"


def wishes_of(house):
    """The wishes of the day, or of the last one; None ahead of the first."""
    return None if house.last is None else house.last.wishes


def say_bring(house, values):
    """Brings a file."""
    return str(house.bring(tuple(values)))


def say_drop(house, values):
    """Drops a file."""
    house.drop(values[0])
    return "done"


def say_day(house, values):
    """Begins a day."""
    house.day(tuple(values[1:]), spares=values[0])
    return "done"


def say_call(house, values):
    """Calls the next cry."""
    return str(house.call())


def say_lose(house, values):
    """Loses the next cry."""
    house.lose()
    return "done"


def say_away(house, values):
    """Sends a hand away."""
    return yes_or_no(house.away(values[0]))


def say_home(house, values):
    """Has a hand back."""
    return yes_or_no(house.home(values[0]))


def say_night(house, values):
    """Ends the day."""
    return shown_row(house.night())


def say_files(house, values):
    """The numbers of the files."""
    return shown_row(house.files())


def say_shelf(house, values):
    """A file as a hand has it."""
    hand, number = values
    there = dict(house.shelf(hand))
    if number not in there:
        raise NoFile(number)
    return shown_row(there[number])


def say_heard(house, values):
    """What a hand heard."""
    return shown_row(house.heard(values[0]))


def say_pieces(house, values):
    """What a hand knows of its file."""
    told = house.pieces(values[0])
    return shown_row(() if told is None else told)


def say_knows(house, values):
    """Whether a hand knows its file."""
    return yes_or_no(house.knows(values[0]))


def say_made(house, values):
    """How many cries are made."""
    wishes = wishes_of(house)
    return shown(None if wishes is None else made(house.t, wishes))


def say_cry(house, values):
    """The lot of a made cry."""
    wishes = wishes_of(house)
    if wishes is None:
        raise NoNumber(values[0])
    return shown_lot(made_at(house.t, wishes, values[0]))


def say_brings(house, values):
    """By which cry a piece comes to a hand."""
    hand, lot = values
    house.refuse_no_hand(hand)
    wishes = wishes_of(house)
    if wishes is None or wishes[hand] is None:
        raise NoWish(hand)
    if not is_lot(house.hands, house.t, lot) or hand in lot:
        raise NoLot(lot)
    whole, number = comes_by(wishes, hand, lot)
    return f"{shown_lot(whole)} {shown(number)}"


def say_text(house, values):
    """The house's text, in one row."""
    return show_house(house).replace("\n", " | ")


ANSWERS = {
    "bring": say_bring, "drop": say_drop, "day": say_day, "call": say_call, "lose": say_lose, "away": say_away,
    "home": say_home, "night": say_night, "files": say_files, "shelf": say_shelf, "heard": say_heard,
    "pieces": say_pieces, "knows": say_knows, "made": say_made, "cry": say_cry, "brings": say_brings,
    "text": say_text,
}


class Desk:
    """A house that is spoken to."""

    def __init__(self, text):
        self.house = read_house(text)

    def say(self, line):
        """Does what the line says; the answer."""
        if not isinstance(line, str):
            raise NoLine(line)
        words = line.split(" ")
        form = form_for(words[0], len(words) - 1)
        if form is None or not all([fits(kind, word) for kind, word in zip(form, words[1:])]):
            raise NoLine(line)
        answer = ANSWERS[words[0]]
        return answer(self.house, [value_in(kind, word) for kind, word in zip(form, words[1:])])
