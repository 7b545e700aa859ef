"""Cries of any make, judged by what each hand tells from them."""

from lackcry.cries import terms
from lackcry.hearing import first_lack
from lackcry.making import made_lots


def ours(p, t, wishes):
    """The making of the made cries."""
    return tuple(
        tuple(sorted([(number, small, way % p) for way, number, small in terms(wishes, lot)]))
        for lot in made_lots(t, wishes)
    )


def judged(p, t, wishes, making):
    """Whether each hand that wishes tells its file, or else the first hand and lot that lack."""
    found = first_lack(p, t, wishes, making)
    if found is None:
        return ("all",)
    hand, lot, change = found
    return ("lacks", hand, lot)
