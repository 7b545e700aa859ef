"""Cries that aren't made, told by made ones."""

from lackcry.lots import every_lot, refuse_too_many
from lackcry.making import is_made, made_lots
from lackcry.signs import row_sign
from lackcry.wishes import leaders, wished, wishers


def stand_ins(wishes, lot):
    """For each wished file, rising, its leader, then its wishers of a lot without a leader."""
    rows = [wishers(wishes, number) for number in wished(wishes)]
    return [row[:1] + tuple(hand for hand in row[1:] if hand in lot) for row in rows]


def left_many(wishes, lot):
    """How many made cries tell that of a lot without a leader."""
    many = 1
    for row in stand_ins(wishes, lot):
        many *= len(row)
    return many - 1


def told_by(wishes, lot):
    """The signs and made lots whose cries, summed, are the lot's cry."""
    if not is_made(wishes, lot):
        refuse_too_many(left_many(wishes, lot))
    return every_told_by(wishes, lot)


def every_told_by(wishes, lot):
    """The same, however many they are."""
    if is_made(wishes, lot):
        return ((1, lot),)
    picks = [()]
    for row in stand_ins(wishes, lot):
        picks = [pick + (hand,) for pick in picks for hand in row]
    both = sorted(lot + leaders(wishes))
    # The first pick is all leaders. Its term stands alone on the other side of the sum that is 0, so signs turn.
    turn = -row_sign(picks[0] + lot)
    rows = []
    for pick in picks[1:]:
        other = tuple(hand for hand in both if hand not in pick)
        rows.append((other, turn * row_sign(pick + other)))
    return tuple((way, other) for other, way in sorted(rows))


def by_lots(t, wishes, cries):
    """The made cries in a dict by their lots."""
    return dict(zip(made_lots(t, wishes), cries))


def cry_from(p, wishes, lot, heard):
    """The cry of any lot, from the made ones by their lots."""
    return sum([way * heard[other] for way, other in every_told_by(wishes, lot)]) % p


def all_from(p, t, wishes, cries):
    """The cries of all lots of t + 1 hands, from the made ones."""
    heard = by_lots(t, wishes, cries)
    return tuple(cry_from(p, wishes, lot, heard) for lot in every_lot(len(wishes), t + 1))
