"""Cries: pieces of several files laid over one another."""

from lackcry.files import piece
from lackcry.lots import every_lot, refuse_too_many
from lackcry.making import made, made_lots, made_number
from lackcry.signs import sign, with_hand, without


def terms(wishes, lot):
    """For each hand of the lot that wishes its sign, its file and the lot without it."""
    return tuple((sign(hand, lot), wishes[hand], without(lot, hand)) for hand in lot if wishes[hand] is not None)


def worth(files, wishes, parts):
    """What these terms come to, not yet brought down to a rest."""
    hands = len(wishes)
    return sum([way * piece(hands, files[number], lot) for way, number, lot in parts])


def cry(p, files, wishes, lot):
    """The cry of the lot."""
    return worth(files, wishes, terms(wishes, lot)) % p


def cries(p, t, files, wishes):
    """The made cries."""
    refuse_too_many(made(t, wishes))
    return tuple(cry(p, files, wishes, lot) for lot in made_lots(t, wishes))


def all_cries(p, t, files, wishes):
    """The outer sum whose parts the cries of all lots are."""
    rows = [(lot, cry(p, files, wishes, lot)) for lot in every_lot(len(wishes), t + 1)]
    return tuple((lot, number) for lot, number in rows if number)


def comes_by(wishes, hand, lot):
    """By which cry the hand's file's piece of a lot without it comes: its lot, and its number if it is made."""
    whole = with_hand(lot, hand)
    return (whole, made_number(wishes, whole))


def freed(p, wishes, hand, files, lot, number):
    """The hand's file's piece of the lot without it, by what was cried of the lot."""
    # All terms but its own are of lots with the hand, so they lie on its shelf.
    others = [term for term in terms(wishes, lot) if hand in term[2]]
    return sign(hand, lot) * (number - worth(files, wishes, others)) % p
