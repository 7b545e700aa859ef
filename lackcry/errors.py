"""The refusals, in two families; each holds just what was handed in."""


class NotSo(ValueError):
    """The family of what isn't as it must be."""


class Gone(LookupError):
    """The family of what isn't there."""


class TooMany(NotSo):
    """There are more than are told at once."""

    def __init__(self, many):
        self.many = many


class TooFew(NotSo):
    """Fewer came than are needed."""

    def __init__(self, many):
        self.many = many


class NoWish(NotSo):
    """The hand wishes no file."""

    def __init__(self, hand):
        self.hand = hand


class BadHouse(NotSo):
    """No house can be made with this."""

    def __init__(self, thing):
        self.thing = thing


class BadFile(NotSo):
    """This is no file of the house."""

    def __init__(self, thing):
        self.thing = thing


class BadWishes(NotSo):
    """These are no wishes of the house's files."""

    def __init__(self, thing):
        self.thing = thing


class NoSpares(NotSo):
    """So many spares can't be had."""

    def __init__(self, thing):
        self.thing = thing


class NoText(NotSo):
    """This row of a text can't stand there."""

    def __init__(self, row):
        self.row = row


class NoLine(NotSo):
    """The desk knows no line of this form."""

    def __init__(self, thing):
        self.thing = thing


class NoLot(NotSo):
    """This is no lot that could be meant there."""

    def __init__(self, thing):
        self.thing = thing


class ByDay(NotSo):
    """This isn't done by day."""


class ByNight(NotSo):
    """This isn't done by night."""


class NoNumber(Gone):
    """Nothing has this number."""

    def __init__(self, thing):
        self.thing = thing


class NoFile(Gone):
    """No file has this number."""

    def __init__(self, thing):
        self.thing = thing


class NoHand(Gone):
    """No hand is this."""

    def __init__(self, thing):
        self.thing = thing


class Over(Gone):
    """No cry of the day is left."""
