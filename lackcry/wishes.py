"""Wishes: for each hand the number of a file, or None."""

from lackcry.kinds import is_tuple_of, is_whole


def is_wishes(hands, files, thing):
    """Whether it is wishes of so many hands for these files."""
    if not is_tuple_of(hands, thing):
        return False
    there = set(files)
    for wish in thing:
        # Asked first, since to Python True is 1 and a list is in no set at all.
        if wish is not None and not is_whole(wish):
            return False
        if wish is not None and wish not in there:
            return False
    return True


def wished(wishes):
    """The wished numbers, rising."""
    return tuple(sorted({wish for wish in wishes if wish is not None}))


def wishers(wishes, number):
    """The lot of the hands that wish this file."""
    return tuple(hand for hand, wish in enumerate(wishes) if wish == number)


def leaders(wishes):
    """The lot of the least hand of each wished file."""
    seen = set()
    least = []
    for hand, wish in enumerate(wishes):
        if wish is not None and wish not in seen:
            seen.add(wish)
            least.append(hand)
    return tuple(least)
