"""Words of texts: numbers, lots, and the mark where nothing is."""

NOTHING = "-"
MOST_FIGURES = 9


def is_number(word):
    """Whether it is a number by its form."""
    # Figures of other scripts are figures to Python, but not here.
    if not word.isascii() or not word.isdigit() or len(word) > MOST_FIGURES:
        return False
    return word == "0" or not word.startswith("0")


def are_all_numbers(words):
    """Whether each is a number by its form."""
    return all([is_number(word) for word in words])


def is_mark(word):
    """Whether it is a number by its form, or the mark where there is none."""
    return word == NOTHING or is_number(word)


def number_in(word):
    """The number that is so written, None of the mark."""
    return None if word == NOTHING else int(word)


def is_row_of_hands(word):
    """Whether it is numbers by commas, or the mark."""
    return word == NOTHING or are_all_numbers(word.split(","))


def hands_in(word):
    """The tuple of hands that is so written, in whatever order."""
    return () if word == NOTHING else tuple(int(part) for part in word.split(","))


def shown(number):
    """The number's word, the mark of None."""
    return NOTHING if number is None else str(number)


def shown_row(numbers):
    """All numbers by blanks, the mark where there are none at all."""
    return " ".join([shown(number) for number in numbers]) if numbers else NOTHING


def shown_lot(lot):
    """The lot's hands by commas, the mark where there are none."""
    return ",".join([str(hand) for hand in lot]) if lot else NOTHING
