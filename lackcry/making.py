"""Which cries are made: those of the lots with a leader."""

from lackcry.errors import NoNumber
from lackcry.kinds import is_below
from lackcry.lots import choose, first_after
from lackcry.wishes import leaders


def made(t, wishes):
    """How many lots of t + 1 hands have a leader."""
    hands = len(wishes)
    return many_led(hands, hands - len(leaders(wishes)), t + 1, False)


def many_led(hands, free, size, led):
    """How many lots of this size of these hands, free of them no leaders, have a leader, or any where led."""
    return choose(hands, size) - (0 if led else choose(free, size))


def is_made(wishes, lot):
    """Whether the lot has a leader."""
    return is_led(leaders(wishes), lot)


def is_led(leads, lot):
    """Whether the lot has one of the leaders."""
    return any([hand in leads for hand in lot])


def free_above(hands, leads):
    """For each hand how many of those above it are no leaders."""
    told = []
    free = hands - len(leads)
    for hand in range(hands):
        if hand not in leads:
            free -= 1
        told.append(free)
    return told


def made_at(t, wishes, number):
    """The so-manieth lot of t + 1 hands with a leader."""
    if not is_below(made(t, wishes), number):
        raise NoNumber(number)
    hands = len(wishes)
    leads = leaders(wishes)
    lot = []
    led = False
    ahead = number
    for hand, free in enumerate(free_above(hands, leads)):
        # Of the made lots that begin as told so far, those that go on with this hand stand first.
        many = many_led(hands - hand - 1, free, t - len(lot), led or hand in leads)
        if ahead < many:
            lot.append(hand)
            led = led or hand in leads
        else:
            ahead -= many
    return tuple(lot)


def made_number(wishes, lot):
    """The lot's number among those of its size with a leader, None where it has none."""
    leads = leaders(wishes)
    if not is_led(leads, lot):
        return None
    hands = len(wishes)
    size = len(lot)
    free = free_above(hands, leads)
    behind = 0
    led = False
    for place, hand in enumerate(lot):
        # A made lot behind this one first differs at some place, and from there on has greater hands only.
        behind += many_led(hands - hand - 1, free[hand], size - place, led)
        led = led or hand in leads
    return made(size - 1, wishes) - 1 - behind


def made_lots(t, wishes):
    """All lots of t + 1 hands with a leader, rising, however many they are."""
    hands = len(wishes)
    leads = leaders(wishes)
    last = leads[-1] if leads else -1
    rows = [()]
    for place in range(t + 1):
        # Left out is what can't become a made lot: too few hands left, or no leader any more.
        end = hands - t + place
        rows = [
            lot + (hand,)
            for lot in rows
            for hand in range(first_after(lot), end)
            if hand <= last or is_led(leads, lot)
        ]
    return tuple(lot for lot in rows if is_led(leads, lot))
