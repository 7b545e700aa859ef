"""What of its file a hand tells from its shelf and the cries."""

from lackcry.cries import freed, terms
from lackcry.errors import NoWish
from lackcry.leftout import by_lots, cry_from
from lackcry.lots import every_lot, number_of
from lackcry.making import made_lots
from lackcry.signs import with_hand
from lackcry.solving import reduced


def file_of(wishes, hand):
    """The number of the file that the hand wishes."""
    if wishes[hand] is None:
        raise NoWish(hand)
    return wishes[hand]


def told_file(p, t, wishes, hand, files, cries):
    """The hand's whole file, by all made cries."""
    own = files[file_of(wishes, hand)]
    heard = by_lots(t, wishes, cries)
    return tuple(
        here if hand in lot else told_piece(p, wishes, hand, files, lot, heard)
        for lot, here in zip(every_lot(len(wishes), t), own)
    )


def told_piece(p, wishes, hand, files, lot, heard):
    """The hand's file's piece of a lot without it, from the made cries by their lots."""
    whole = with_hand(lot, hand)
    return freed(p, wishes, hand, files, whole, cry_from(p, wishes, whole, heard))


def known(p, t, wishes, hand, files, heard):
    """The hand's file's pieces, None for each that what it has and heard leaves open."""
    own = file_of(wishes, hand)
    sums = [
        (numbered(wishes, lot), number)
        for lot, number in zip(made_lots(t, wishes), heard)
        if number is not None
    ]
    return told_by_sums(p, files, own, sums)


def told_by_sums(p, files, own, sums):
    """The pieces of the file of this number, None for each that the files as they are had and the sums leave open."""
    told = settled(p, files, sums)
    return tuple(told.get((own, place)) if here is None else here for place, here in enumerate(files[own]))


def numbered(wishes, lot):
    """The terms of the lot's cry, as (sign, number of the file, number of the piece)."""
    hands = len(wishes)
    return [(way, number, number_of(hands, small)) for way, number, small in terms(wishes, lot)]


def settled(p, files, sums):
    """A dict of all pieces that aren't had, but are the same in all layings in which these sums of pieces are so.

    Its keys are (number of the file, number of the piece). A sum is its terms, as numbered tells them, and what
    they come to.
    """
    keys = unknown_keys(files, sums)
    rows = reduced(p, [equation(files, keys, parts, number) for parts, number in sums], len(keys))
    told = {}
    for row in rows:
        # A piece is settled just where a row speaks of it alone; any other piece there could be anything.
        places = [place for place in range(len(keys)) if row[place]]
        if len(places) == 1:
            told[keys[places[0]]] = row[-1]
    return told


def unknown_keys(files, sums):
    """The keys of all pieces in the sums that aren't had, rising."""
    every = [(number, place) for parts, total in sums for way, number, place in parts]
    return sorted({key for key in every if files[key[0]][key[1]] is None})


def equation(files, keys, parts, number):
    """How many times each of these pieces is in the sum, and behind it what they come to together."""
    ways = {}
    left = number
    for way, wish, place in parts:
        here = files[wish][place]
        if here is None:
            ways[(wish, place)] = ways.get((wish, place), 0) + way
        else:
            left -= way * here
    return [ways.get(key, 0) for key in keys] + [left]
