"""A house of nights and days."""

from lackcry.days import Day, are_spares, has_room
from lackcry.errors import BadFile, BadHouse, BadWishes, ByDay, ByNight, NoFile, NoHand, NoSpares, Over
from lackcry.files import is_file, is_prime
from lackcry.kinds import is_below, is_whole
from lackcry.shelves import shelf_rows
from lackcry.showing import show_house
from lackcry.signs import with_hand, without
from lackcry.wishes import is_wishes, wished

MOST_HANDS = 6
PRIMES_BELOW = 10 ** 9


def refuse_bad_house(hands, t, p):
    """Nothing, but where no house can be of these."""
    if not is_below(MOST_HANDS + 1, hands) or hands == 0:
        raise BadHouse(hands)
    if not is_below(hands + 1, t):
        raise BadHouse(t)
    if not is_below(PRIMES_BELOW, p) or not is_prime(p):
        raise BadHouse(p)


class House:
    """Files on shelves; by day wishes and cries.

    stock: the files by their numbers. coming: the number of the next one. gone: the lot of the hands that are away.
    light: whether it is day. last: the day, or the last one, or None. ears: for each hand what it heard of it.
    """

    def __init__(self, hands, t, p):
        refuse_bad_house(hands, t, p)
        self.hands = hands
        self.t = t
        self.p = p
        self.stock = {}
        self.coming = 0
        self.gone = ()
        self.light = False
        self.last = None
        self.ears = ((),) * hands

    def refuse_by_day(self):
        """Nothing, but by day."""
        if self.light:
            raise ByDay()

    def refuse_by_night(self):
        """Nothing, but by night."""
        if not self.light:
            raise ByNight()

    def refuse_no_hand(self, thing):
        """Nothing, but where it is no hand."""
        if not is_below(self.hands, thing):
            raise NoHand(thing)

    def bring(self, file):
        """Lays a file on all shelves; its number."""
        self.refuse_by_day()
        if not is_file(self.p, self.hands, self.t, file):
            raise BadFile(file)
        number = self.coming
        self.stock[number] = file
        self.coming = number + 1
        return number

    def drop(self, number):
        """Takes a file off all shelves."""
        self.refuse_by_day()
        # Asked first, since to Python True is 1 and a list can't be looked for.
        if not is_whole(number) or number not in self.stock:
            raise NoFile(number)
        del self.stock[number]

    def files(self):
        """The numbers of the files, rising."""
        return tuple(sorted(self.stock))

    def shelf(self, hand):
        """Each file's number, and the file as the hand has it."""
        self.refuse_no_hand(hand)
        return shelf_rows(self.hands, self.t, hand, self.stock)

    def day(self, wishes, *, spares=0):
        """Makes it day."""
        self.refuse_by_day()
        if not is_wishes(self.hands, self.files(), wishes):
            raise BadWishes(wishes)
        if not are_spares(spares) or not has_room(self.p, self.t, wishes, spares):
            raise NoSpares(spares)
        asked = {number: self.stock[number] for number in wished(wishes)}
        self.last = Day(self.p, self.t, wishes, spares, asked)
        self.ears = ((),) * self.hands
        self.light = True

    def coming_cry(self):
        """The cry that is next."""
        self.refuse_by_night()
        at = len(self.ears[0])
        if at == len(self.last.cried):
            raise Over()
        return self.last.cried[at]

    def call(self):
        """The next cry, heard by all who are here."""
        number = self.coming_cry()
        self.ears = tuple(
            row + (None if hand in self.gone else number,) for hand, row in enumerate(self.ears)
        )
        return number

    def lose(self):
        """Passes over the next cry: nobody hears it."""
        self.coming_cry()
        self.ears = tuple(row + (None,) for row in self.ears)

    def away(self, hand):
        """From now on the hand hears nothing; whether that is new."""
        self.refuse_no_hand(hand)
        if hand in self.gone:
            return False
        self.gone = with_hand(self.gone, hand)
        return True

    def home(self, hand):
        """From now on the hand hears again; whether that is new."""
        self.refuse_no_hand(hand)
        if hand not in self.gone:
            return False
        self.gone = without(self.gone, hand)
        return True

    def night(self):
        """Makes it night; the lot of those that wish and don't know their whole file."""
        self.refuse_by_night()
        self.light = False
        return tuple(
            hand for hand, wish in enumerate(self.last.wishes) if wish is not None and not self.knows(hand)
        )

    def heard(self, hand):
        """Each cry so far, None where the hand didn't hear it."""
        self.refuse_no_hand(hand)
        return self.ears[hand]

    def pieces(self, hand):
        """What the hand knows of its file; None where it wishes none."""
        self.refuse_no_hand(hand)
        if self.last is None or self.last.wishes[hand] is None:
            return None
        return self.last.known_by(hand, self.ears[hand])

    def knows(self, hand):
        """Whether the hand wishes and knows its whole file."""
        told = self.pieces(hand)
        return told is not None and None not in told

    def is_day(self):
        """Whether it is day."""
        return self.light

    def copy(self):
        """A house alike, of its own."""
        other = House(self.hands, self.t, self.p)
        other.stock = dict(self.stock)
        other.coming = self.coming
        other.gone = self.gone
        other.light = self.light
        # A day never changes, so both may have the same.
        other.last = self.last
        other.ears = self.ears
        return other

    def __eq__(self, other):
        return isinstance(other, House) and show_house(self) == show_house(other)

    def __len__(self):
        return len(self.stock)
