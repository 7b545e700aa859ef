"""What a hand tells of its file from its shelf and sums of pieces."""

from lackcry.lots import every_lot
from lackcry.solving import reduced


def wishing(wishes):
    """The hands that wish, rising."""
    return [hand for hand, wish in enumerate(wishes) if wish is not None]


def lots_without(t, wishes, hand):
    """The lots of t hands without this one, rising: those of the pieces that it lacks."""
    return [lot for lot in every_lot(len(wishes), t) if hand not in lot]


class Hearing:
    """A hand that wishes, and the sums that it hears."""

    def __init__(self, p, t, wishes, hand, making):
        own = wishes[hand]
        lacked = [(own, lot) for lot in lots_without(t, wishes, hand)]
        others = [(number, lot) for sum_ in making for number, lot, many in sum_ if hand not in lot]
        self.p = p
        self.own = own
        self.columns = sorted(set(lacked + others))
        # Each row by the column in which it alone has a 1.
        self.rows = {row.index(1): row for row in reduced(p, sum_rows(self.columns, making), len(self.columns))}

    def other_column(self, column):
        """A column of a piece that could be anything while this one makes up for it; None where this one is told."""
        if column not in self.rows:
            return column
        for other in range(column + 1, len(self.columns)):
            if self.rows[column][other]:
                return other
        return None

    def weights(self, lot):
        """How many times each sum is taken, so that of what the hand lacks just its piece of the lot is left.

        None where the hand can't tell that piece.
        """
        column = self.columns.index((self.own, lot))
        if self.other_column(column) is not None:
            return None
        return tuple(self.rows[column][len(self.columns):])

    def change(self, lot):
        """A change of pieces that the hand lacks, its piece of a lot that it can't tell too, that no sum shows."""
        # One piece without a row is changed by 1; those with rows make up for it, each in its own row.
        free = self.other_column(self.columns.index((self.own, lot)))
        parts = {free: 1}
        for column in self.rows:
            parts[column] = -self.rows[column][free] % self.p
        return tuple(self.columns[column] + (parts[column],) for column in sorted(parts) if parts[column])


def sum_rows(columns, making):
    """For each sum how many times each of these pieces is in it, and behind them a 1 in a column of its own."""
    places = {key: place for place, key in enumerate(columns)}
    rows = []
    for at, sum_ in enumerate(making):
        row = [0] * (len(columns) + len(making))
        for number, lot, many in sum_:
            if (number, lot) in places:
                row[places[(number, lot)]] = many
        row[len(columns) + at] = 1
        rows.append(row)
    return rows


def first_lack(p, t, wishes, making):
    """The least hand that can't tell its file, the least lot whose piece it can't, a change that it can't hear.

    None where all can.
    """
    for hand in wishing(wishes):
        hearing = Hearing(p, t, wishes, hand, making)
        for lot in lots_without(t, wishes, hand):
            if hearing.weights(lot) is None:
                return (hand, lot, hearing.change(lot))
    return None
