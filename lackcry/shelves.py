"""What of a file lies on a hand's shelf."""

from lackcry.lots import choose, every_lot, lot_at


def shelf(hands, t, hand, file):
    """The file's pieces, None for each that doesn't lie on the hand's shelf."""
    return tuple(number if hand in lot else None for lot, number in zip(every_lot(hands, t), file))


def shelf_rows(hands, t, hand, files):
    """Of a dict of files each one's number, rising, and the file as the hand has it."""
    return tuple((number, shelf(hands, t, hand, files[number])) for number in sorted(files))


def has(hands, t, hand, number):
    """Whether the piece of this number lies on the hand's shelf."""
    return hand in lot_at(hands, t, number)


def lack(hands, t):
    """How many pieces of a file a hand hasn't: those of the lots of all others."""
    return choose(hands - 1, t)
