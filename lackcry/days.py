"""Days: wishes, the wished files as they were, and the cries."""

from lackcry.cries import cries
from lackcry.kinds import is_below
from lackcry.losses import restored, spare_weights, with_spares
from lackcry.making import made, made_lots
from lackcry.shelves import shelf_rows
from lackcry.telling import numbered, told_by_sums, told_file

MOST_SPARES = 1000


def are_spares(thing):
    """Whether it is as many spares as a day could have."""
    return is_below(MOST_SPARES + 1, thing)


def has_room(p, t, wishes, spares):
    """Whether p has values enough for the made cries and so many spares."""
    return spares == 0 or made(t, wishes) + spares <= p


class Day:
    """A day as it begins; nothing of it changes."""

    def __init__(self, p, t, wishes, spares, asked):
        self.p = p
        self.t = t
        self.wishes = wishes
        self.spares = spares
        self.asked = asked
        self.cried = with_spares(p, cries(p, t, asked, wishes), spares)

    def known_by(self, hand, row):
        """The pieces of its file that a hand which wishes knows, by what it heard of the cries; None for the others."""
        had = dict(shelf_rows(len(self.wishes), self.t, hand, self.asked))
        many = made(self.t, self.wishes)
        if len([number for number in row if number is not None]) >= many:
            whole = restored(self.p, many, row)
            return told_file(self.p, self.t, self.wishes, hand, had, whole)
        return told_by_sums(self.p, had, self.wishes[hand], self.sums_in(row))

    def sums_in(self, row):
        """What was heard, each as terms and what they come to."""
        parts = [numbered(self.wishes, lot) for lot in made_lots(self.t, self.wishes)]
        return [
            (self.parts_of(parts, place), number) for place, number in enumerate(row) if number is not None
        ]

    def parts_of(self, parts, place):
        """The terms of the cry at this place, those of the made cries being known."""
        many = len(parts)
        if place < many:
            return parts[place]
        weights = spare_weights(self.p, many, place - many)
        return [
            (weight * way, number, at) for weight, row in zip(weights, parts) for way, number, at in row
        ]
