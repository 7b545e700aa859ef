import inspect
import itertools
import unittest

from lackcry.errors import BadFile, BadHouse, BadWishes, ByDay, ByNight, NoFile, NoHand, NoSpares, Over
from lackcry.house import House
from lackcry.losses import with_spares
from lackcry.making import made
from lackcry.shelves import shelf
from lackcry.showing import show_house
from lackcry.telling import known
from tests.helpers import (
    ANYTHING, NO_NUMBERS, by_differences, cry_by_words, drawn, drawn_file, drawn_wishes, led_lots, same_kind,
)
from tests.plain import Plain, first_wrong, outcome

SOME_PRIMES = (2, 3, 5, 7, 13, 29, 101, 999999937)


def everything(house, deep):
    """All that a house tells; what hands know only where deep."""
    told = [house.files(), len(house), house.is_day()]
    for hand in range(house.hands):
        told.append((house.shelf(hand), house.heard(hand)))
        if deep:
            told.append((house.pieces(hand), house.knows(hand)))
    return repr(told)


def drawn_wrong(source):
    """Something that may be no file, no number, no wishes, no hand, no spares."""
    return source.choice(ANYTHING + (-1, 0, 1, 2, 3, 6, 7, 1000, 1001, 10 ** 9))


def drawn_deed(source, plain):
    """A deed and what is handed in, mostly what fits the house as it is."""
    wrong = source.randrange(12) == 0
    night = ("bring", "bring", "day", "day", "drop", "away", "home")
    day = ("call", "call", "call", "call", "call", "lose", "away", "home", "night")
    deed = source.choice(night + day if source.randrange(10) == 0 else day if plain.is_day() else night)
    if deed == "bring":
        return deed, (drawn_wrong(source) if wrong else drawn_file(source, plain.p, len(plain.lots)),), {}
    if deed == "drop":
        there = plain.files() + (plain.next,)
        return deed, (drawn_wrong(source) if wrong else source.choice(there),), {}
    if deed in ("away", "home"):
        return deed, (drawn_wrong(source) if wrong else source.randrange(plain.hands),), {}
    if deed == "day":
        wishes = drawn_wishes(source, plain.hands, plain.files() or (None,))
        if wrong and source.randrange(2):
            wishes = drawn_wrong(source)
        more = {} if source.randrange(3) == 0 else {"spares": source.choice((0, 1, 2, 3, 5, plain.p % 1000))}
        if wrong:
            more = {"spares": drawn_wrong(source)}
        return deed, (wishes,), more
    return deed, (), {}


class ManyDeeds(unittest.TestCase):
    def go(self, source, hands, t, p, many):
        house, plain = House(hands, t, p), Plain(hands, t, p)
        copies = []
        for step in range(many):
            deed, handed, more = drawn_deed(source, plain)
            before = repr((handed, more))
            told = outcome(lambda: getattr(house, deed)(*handed, **more))
            self.assertEqual(told, outcome(lambda: getattr(plain, deed)(*handed, **more)), (deed, handed, more))
            self.assertEqual(repr((handed, more)), before)
            deep = step % 9 == 8 or step == many - 1 or deed == "night"
            self.assertEqual(everything(house, deep), everything(plain, deep), (deed, handed, more))
            self.assertEqual(show_house(house), plain.text())
            self.assertIs(first_wrong(plain.text()), None)
            if source.randrange(20) == 0:
                copies.append((house.copy(), plain.text()))
                self.assertEqual(copies[-1][0], house)
        for copy, text in copies:
            self.assertEqual(show_house(copy), text)
        return plain

    def test_drawn_orders(self):
        source = drawn("deeds")
        days = 0
        for hands in range(1, 6):
            for t in range(hands + 1):
                for p in source.sample(SOME_PRIMES, 3):
                    plain = self.go(source, hands, t, p, 60)
                    days += plain.wishes is not None
        self.assertGreater(days, 40)

    def test_six_hands(self):
        source = drawn("six")
        for t in range(7):
            self.go(source, 6, t, source.choice(SOME_PRIMES), 35)


class Founded(unittest.TestCase):
    def refused(self, handed, thing):
        before = repr(handed)
        with self.assertRaises(BadHouse) as caught:
            House(*handed)
        self.assertIs(caught.exception.thing, thing)
        self.assertEqual(repr(handed), before)

    def test_at_first(self):
        for hands in range(1, 7):
            for t in range(hands + 1):
                for p in (2, 3, 999999929, 999999937):
                    house = House(hands, t, p)
                    self.assertIs(house.is_day(), False)
                    self.assertTrue(same_kind(house.files(), ()))
                    self.assertEqual(len(house), 0)
                    for hand in range(hands):
                        self.assertTrue(same_kind(house.shelf(hand), ()))
                        self.assertTrue(same_kind(house.heard(hand), ()))
                        self.assertIsNone(house.pieces(hand))
                        self.assertIs(house.knows(hand), False)
                        self.assertIs(house.home(hand), False)
                    self.assertEqual(House(p=p, t=t, hands=hands), house)

    def test_hands(self):
        for thing in NO_NUMBERS + ANYTHING + (0, 7, 8, 60, 10 ** 30):
            self.refused((thing, 0, 2), thing)
            self.refused((thing, thing, thing), thing)
            self.refused((thing, 99, 4), thing)

    def test_t(self):
        for hands in range(1, 7):
            for thing in NO_NUMBERS + (hands + 1, hands + 2, 10 ** 30):
                self.refused((hands, thing, 2), thing)
                self.refused((hands, thing, thing), thing)
                self.refused((hands, thing, 4), thing)
        for thing in ANYTHING:
            self.refused((6, thing, 7), thing)

    def test_p(self):
        great = (10 ** 9, 10 ** 9 + 7, 999999938, 999999937 ** 2, 10 ** 30 + 57)
        for thing in NO_NUMBERS + ANYTHING + (0, 1, 4, 6, 8, 9, 15, 25, 91, 31621 * 31607) + great:
            self.refused((3, 1, thing), thing)
        for hands in range(1, 7):
            self.refused((hands, hands, 1), 1)

    def test_names(self):
        wanted = {
            "bring": ["file"], "drop": ["number"], "files": [], "shelf": ["hand"], "day": ["wishes", "spares"],
            "call": [], "lose": [], "away": ["hand"], "home": ["hand"], "night": [], "heard": ["hand"],
            "pieces": ["hand"], "knows": ["hand"], "is_day": [], "copy": [],
        }
        for name, names in wanted.items():
            self.assertIn(name, vars(House))
            told = inspect.signature(getattr(House(1, 0, 2), name)).parameters
            self.assertEqual(list(told), names)
        spares = inspect.signature(House.day).parameters["spares"]
        self.assertEqual((spares.kind, spares.default), (inspect.Parameter.KEYWORD_ONLY, 0))
        house = House(2, 1, 5)
        self.assertEqual(house.bring(file=(1, 2)), 0)
        self.assertEqual(house.bring(file=(3, 4)), 1)
        self.assertIsNone(house.drop(number=0))
        self.assertEqual(house.shelf(hand=1), ((1, (None, 4)),))
        self.assertIsNone(house.day(spares=1, wishes=(1, None)))
        self.assertIs(house.away(hand=1), True)
        self.assertIs(house.home(hand=1), True)
        house.call()
        self.assertEqual(len(house.heard(hand=0)), 1)
        self.assertEqual(house.pieces(hand=0), (3, 4))
        self.assertIs(house.knows(hand=0), True)
        with self.assertRaises(TypeError):
            House(2, 1, 5).day((None, None), 0)


class Refusals(unittest.TestCase):
    def refused(self, house, error, action, *values):
        text = show_house(house)
        before = everything(house, True)
        with self.assertRaises(error) as caught:
            action()
        self.assertIs(type(caught.exception), error)
        self.assertEqual(len(vars(caught.exception)), len(values))
        for value in values:
            self.assertIs(caught.exception.thing, value)
        self.assertEqual(show_house(house), text)
        self.assertEqual(everything(house, True), before)

    def night(self):
        house = House(3, 1, 5)
        house.bring((1, 2, 3))
        house.bring((4, 0, 1))
        house.bring((2, 2, 2))
        house.drop(1)
        return house

    def day(self):
        house = self.night()
        house.day((0, 2, None), spares=1)
        house.away(2)
        house.call()
        return house

    def test_files_by_night(self):
        house = self.night()
        for thing in ANYTHING + ((1, 2), (1, 2, 3, 4), (1, 2, 5), (1, 2, -1), (1, 2, True), (None, 1, 2), [1, 2, 3]):
            self.refused(house, BadFile, lambda: house.bring(thing), thing)
        for thing in ANYTHING + (1, 3, 4, -1, 10 ** 6):
            self.refused(house, NoFile, lambda: house.drop(thing), thing)

    def test_by_day_goes_ahead(self):
        house = self.day()
        for thing in NO_NUMBERS + ((1, 2, 3), 0, 1, 2):
            self.refused(house, ByDay, lambda: house.bring(thing))
            self.refused(house, ByDay, lambda: house.drop(thing))
            self.refused(house, ByDay, lambda: house.day(thing))
            self.refused(house, ByDay, lambda: house.day(thing, spares=thing))
            self.refused(house, ByDay, lambda: house.day((0, 0, 0), spares=thing))

    def test_wishes_ahead_of_spares(self):
        house = self.night()
        for thing in ANYTHING + ((0, 0), (0, 0, 0, 0), (0, 1, 0), (0, 3, 0), (0, False, 0), [0, 0, 0], (0, "2", 0)):
            self.refused(house, BadWishes, lambda: house.day(thing), thing)
            self.refused(house, BadWishes, lambda: house.day(thing, spares=thing), thing)
            self.refused(house, BadWishes, lambda: house.day(thing, spares=1001), thing)

    def test_spares_of_anything(self):
        house = self.night()
        for thing in NO_NUMBERS + ANYTHING + (-1, 1001, 1002, 10 ** 30, 3, 4, 1000):
            self.refused(house, NoSpares, lambda: house.day((0, 2, None), spares=thing), thing)
            self.assertEqual(made(1, (0, 2, None)), 3)

    def test_spares_at_the_edges(self):
        for p in (2, 3, 5, 7, 13, 997, 1009, 1013, 999999937):
            for hands, t in ((1, 0), (1, 1), (2, 0), (2, 1), (3, 1), (4, 1), (6, 2)):
                for wishes in ((0,) * hands, (None,) * hands, tuple(range(hands))):
                    house = House(hands, t, p)
                    for _ in range(hands):
                        house.bring((1,) * len(list(itertools.combinations(range(hands), t))))
                    many = made(t, wishes)
                    most = min(1000, max(p - many, 0))
                    for thing in (most + 1, most + 2):
                        self.refused(house, NoSpares, lambda: house.day(wishes, spares=thing), thing)
                    # No spares at all are never too many.
                    for thing in {0, most}:
                        other = house.copy()
                        other.day(wishes, spares=thing)
                        self.assertEqual(len(other.last.cried), many + thing)

    def test_by_night(self):
        for house in (House(3, 1, 5), self.night()):
            for action in (house.call, house.lose, house.night):
                self.refused(house, ByNight, action)
        house = self.day()
        house.night()
        for action in (house.call, house.lose, house.night):
            self.refused(house, ByNight, action)

    def test_over(self):
        house = self.day()
        for _ in range(3):
            house.lose()
        for action in (house.call, house.lose):
            self.refused(house, Over, action)
        self.assertEqual(house.night(), (0, 1))
        house = self.night()
        house.day((None,) * 3)
        for action in (house.call, house.lose):
            self.refused(house, Over, action)
        self.assertEqual(house.night(), ())

    def test_no_hand(self):
        for house in (House(3, 1, 5), self.night(), self.day()):
            for thing in NO_NUMBERS + ANYTHING + (3, 4, -1, 10 ** 30):
                for name in ("shelf", "away", "home", "heard", "pieces", "knows"):
                    self.refused(house, NoHand, lambda: getattr(house, name)(thing), thing)


class Deeds(unittest.TestCase):
    def test_numbers_go_on_behind_a_drop(self):
        house = House(2, 1, 7)
        self.assertEqual([house.bring((1, 2)) for _ in range(3)], [0, 1, 2])
        house.drop(2)
        house.drop(0)
        self.assertEqual(house.files(), (1,))
        self.assertEqual(house.bring((3, 4)), 3)
        house.drop(1)
        house.drop(3)
        self.assertEqual((house.files(), len(house)), ((), 0))
        self.assertEqual(house.bring((5, 6)), 4)

    def test_shelves(self):
        source = drawn("shelves")
        for hands in range(1, 7):
            for t in range(hands + 1):
                house = House(hands, t, 101)
                every = list(itertools.combinations(range(hands), t))
                files = [drawn_file(source, 101, len(every)) for _ in range(3)]
                for file in files:
                    house.bring(file)
                for hand in range(hands):
                    wanted = tuple((number, shelf(hands, t, hand, file)) for number, file in enumerate(files))
                    self.assertTrue(same_kind(house.shelf(hand), wanted))

    def test_a_call_that_nobody_is_here_to_hear(self):
        house = House(2, 0, 5)
        house.bring((3,))
        house.day((0, 0), spares=2)
        house.away(0)
        house.away(1)
        self.assertEqual(house.call(), 3)
        self.assertEqual((house.heard(0), house.heard(1)), ((None,), (None,)))
        house.home(1)
        self.assertIsNone(house.lose())
        self.assertEqual(house.call(), 3)
        self.assertEqual((house.heard(0), house.heard(1)), ((None, None, None), (None, None, 3)))
        self.assertEqual((house.pieces(0), house.pieces(1)), ((None,), (3,)))
        self.assertEqual(house.night(), (0,))

    def test_away_and_home_by_night_and_by_day(self):
        house = House(2, 0, 5)
        self.assertEqual([house.away(1), house.away(1), house.home(1), house.home(1), house.away(1)],
                         [True, False, True, False, True])
        house.bring((3,))
        house.day((0, 0))
        self.assertIs(house.away(1), False)
        house.call()
        self.assertEqual((house.heard(0), house.heard(1)), ((3,), (None,)))
        self.assertEqual(house.night(), (1,))
        self.assertIs(house.away(1), False)

    def test_of_the_last_day_until_the_next_begins(self):
        house = House(3, 1, 7)
        house.bring((1, 2, 3))
        house.bring((4, 5, 6))
        house.day((0, 1, 0), spares=1)
        house.call()
        house.call()
        house.away(0)
        house.call()
        house.night()
        before = [(house.heard(hand), house.pieces(hand), house.knows(hand)) for hand in range(3)]
        house.drop(0)
        house.drop(1)
        house.bring((0, 0, 0))
        house.away(1)
        house.home(0)
        self.assertEqual([(house.heard(hand), house.pieces(hand), house.knows(hand)) for hand in range(3)], before)
        with self.assertRaises(BadWishes):
            house.day((0, 1, 0))
        self.assertEqual([(house.heard(hand), house.pieces(hand), house.knows(hand)) for hand in range(3)], before)
        house.day((2, None, 2))
        self.assertEqual([house.heard(hand) for hand in range(3)], [()] * 3)
        self.assertEqual([house.pieces(hand) for hand in range(3)], [(0, None, None), None, (None, None, 0)])

    def test_the_cries_of_the_day(self):
        source = drawn("cries of the day")
        for hands in range(1, 7):
            for t in range(hands + 1):
                p = source.choice((29, 101, 999999937))
                every = list(itertools.combinations(range(hands), t))
                house = House(hands, t, p)
                files = {number: drawn_file(source, p, len(every)) for number in range(3)}
                for file in files.values():
                    house.bring(file)
                wishes = drawn_wishes(source, hands, (0, 1, 2))
                house.day(wishes, spares=4)
                cries = tuple(cry_by_words(p, files, wishes, lot) for lot in led_lots(t, wishes))
                told = tuple(house.call() for _ in range(len(cries) + 4))
                self.assertTrue(same_kind(told, with_spares(p, cries, 4)))
                with self.assertRaises(Over):
                    house.call()

    def test_more_cries_than_p_without_spares(self):
        house = House(6, 2, 2)
        for number in range(6):
            house.bring(tuple((number >> place % 3) & 1 for place in range(15)))
        house.day((0, 1, 2, 3, 4, 5))
        self.assertEqual(made(2, (0, 1, 2, 3, 4, 5)), 20)
        for _ in range(20):
            house.call()
        self.assertEqual([house.pieces(hand) for hand in range(6)], [house.stock[number] for number in range(6)])
        self.assertEqual(house.night(), ())


class Knowing(unittest.TestCase):
    def layings(self, hands, t, p, wishes, spares):
        """All layings of the wished files, each with all its cries and spares."""
        size = len(list(itertools.combinations(range(hands), t)))
        numbers = sorted({wish for wish in wishes if wish is not None})
        for pieces in itertools.product(range(p), repeat=size * len(numbers)):
            files = {number: pieces[at * size:(at + 1) * size] for at, number in enumerate(numbers)}
            cries = [cry_by_words(p, files, wishes, lot) for lot in led_lots(t, wishes)]
            yield files, by_differences(p, cries, spares)

    def test_all_layings(self):
        source = drawn("all layings")
        seen = set()
        for hands, t, p, wishes, spares in (
            (1, 0, 3, (0,), 2), (1, 1, 3, (0,), 3), (2, 0, 3, (0, 1), 1), (2, 0, 5, (1, 0), 3), (2, 1, 3, (0, 1), 2),
            (2, 1, 5, (1, 1), 2), (3, 2, 2, (0, 1, 2), 1), (3, 1, 5, (0, 0, 0), 3), (3, 1, 3, (0, 1, 0), 0),
            (3, 1, 3, (1, None, 1), 1), (3, 2, 3, (0, 1, 1), 2), (3, 0, 7, (0, 1, 2), 4), (4, 3, 2, (0, 0, 1, 1), 1),
            (3, 0, 3, (2, None, 0), 1), (3, 1, 2, (0, 1, 2), 0), (4, 1, 2, (0, 0, 1, None), 0),
        ):
            every = list(itertools.combinations(range(hands), t))
            layings = list(self.layings(hands, t, p, wishes, spares))
            house = House(hands, t, p)
            for _ in range(3):
                house.bring(drawn_file(source, p, len(every)))
            for _ in range(6):
                house.day(wishes, spares=spares)
                while True:
                    for hand in source.sample(range(hands), source.randrange(hands + 1)):
                        source.choice((house.away, house.home, house.home))(hand)
                    for hand, wish in enumerate(wishes):
                        told = house.pieces(hand)
                        if wish is None:
                            self.assertIsNone(told)
                            self.assertIs(house.knows(hand), False)
                            continue
                        wanted = self.same_in_all(house, hand, every, layings)
                        self.assertTrue(same_kind(told, wanted), (hands, t, p, wishes, spares, hand))
                        self.assertIs(house.knows(hand), None not in wanted)
                        seen.add((None in wanted, any(
                            number is not None for lot, number in zip(every, wanted) if hand not in lot)))
                    if len(house.heard(0)) == len(house.last.cried):
                        break
                    source.choice((house.call, house.call, house.lose))()
                lacking = tuple(
                    hand for hand, wish in enumerate(wishes) if wish is not None and None in house.pieces(hand)
                )
                self.assertTrue(same_kind(house.night(), lacking))
        self.assertEqual(seen, set(itertools.product((True, False), repeat=2)))

    def same_in_all(self, house, hand, every, layings):
        """The hand's pieces that are the same in all layings that it has and heard."""
        heard = house.heard(hand)
        files = house.last.asked
        own = house.last.wishes[hand]
        right = [
            laying[own] for laying, cries in layings
            if all(number is None or number == there for number, there in zip(heard, cries))
            and all(
                laying[number][at] == files[number][at]
                for number in laying for at, lot in enumerate(every) if hand in lot
            )
        ]
        return tuple(column[0] if len(set(column)) == 1 else None for column in zip(*right))

    def test_as_many_as_are_made_are_enough_and_fewer_are_not(self):
        source = drawn("as many as made")
        for hands in range(1, 7):
            for t in range(hands):
                p = source.choice((101, 999999937))
                wishes = drawn_wishes(source, hands, (0, 1, 2))
                many = made(t, wishes)
                house = House(hands, t, p)
                for _ in range(3):
                    house.bring(drawn_file(source, p, len(list(itertools.combinations(range(hands), t)))))
                for more in (0, 1, 7):
                    for short in (0, 1):
                        house.day(wishes, spares=more)
                        lost = source.sample(range(many + more), min(more + short, many + more))
                        for at in range(many + more):
                            (house.lose if at in lost else house.call)()
                        wanted = [wish is not None for wish in wishes]
                        if short and many:
                            # Some hand doesn't tell its file then.
                            self.assertNotEqual([house.knows(hand) for hand in range(hands)], wanted)
                            self.assertNotEqual(house.night(), ())
                        else:
                            self.assertEqual([house.knows(hand) for hand in range(hands)], wanted)
                            for hand, wish in enumerate(wishes):
                                if wish is not None:
                                    self.assertEqual(house.pieces(hand), house.stock[wish])
                            self.assertEqual(house.night(), ())

    def test_a_thousand_spares(self):
        house = House(6, 2, 999999937)
        source = drawn("thousand")
        for _ in range(6):
            house.bring(drawn_file(source, 999999937, 15))
        house.day((5, 4, 3, 2, 1, 0), spares=1000)
        for at in range(1020):
            (house.call if at % 50 == 3 else house.lose)()
        self.assertEqual(len([number for number in house.heard(2) if number is not None]), 21)
        self.assertEqual([house.pieces(hand) for hand in range(6)], [house.stock[5 - hand] for hand in range(6)])
        self.assertEqual(house.night(), ())

    def test_without_spares_as_known_tells(self):
        source = drawn("as known")
        for hands in range(2, 7):
            for t in range(hands):
                p = source.choice(SOME_PRIMES)
                wishes = drawn_wishes(source, hands, (0, 1))
                house = House(hands, t, p)
                files = {}
                for number in range(2):
                    files[number] = drawn_file(source, p, len(list(itertools.combinations(range(hands), t))))
                    house.bring(files[number])
                house.day(wishes)
                for _ in range(made(t, wishes)):
                    source.choice((house.call, house.lose))()
                for hand, wish in enumerate(wishes):
                    if wish is not None:
                        had = {number: shelf(hands, t, hand, file) for number, file in files.items()}
                        self.assertEqual(house.pieces(hand), known(p, t, wishes, hand, had, house.heard(hand)))


class Copies(unittest.TestCase):
    def house(self):
        house = House(3, 1, 7)
        house.bring((1, 2, 3))
        house.bring((4, 5, 6))
        house.away(2)
        return house

    def test_a_copy_goes_on_by_itself(self):
        deeds = (
            lambda house: house.bring((0, 0, 1)), lambda house: house.drop(0), lambda house: house.home(2),
            lambda house: house.day((0, 1, None), spares=2), lambda house: house.away(0),
        )
        for deed in deeds:
            house = self.house()
            copy = house.copy()
            self.assertIs(type(copy), House)
            self.assertIsNot(copy, house)
            self.assertEqual(everything(copy, True), everything(house, True))
            self.assertEqual(copy, house)
            before = show_house(house)
            deed(copy)
            self.assertEqual(show_house(house), before)
            self.assertNotEqual(copy, house)
            deed(house)
            self.assertEqual(copy, house)
        for deed in (House.call, House.lose, House.night):
            house = self.house()
            house.day((0, 1, 1), spares=1)
            house.call()
            copy = house.copy()
            before = everything(house, True), show_house(house)
            deed(copy)
            self.assertEqual((everything(house, True), show_house(house)), before)
            self.assertNotEqual(copy, house)
            deed(house)
            self.assertEqual(copy, house)
            self.assertEqual(everything(copy, True), everything(house, True))

    def test_equal_by_the_text_alone(self):
        one, other = self.house(), self.house()
        self.assertIs(one == other, True)
        self.assertIs(one != other, False)
        other.home(2)
        self.assertIs(one == other, False)
        self.assertIs(one != other, True)
        self.assertIs(House(2, 1, 5) == House(2, 1, 7), False)
        self.assertIs(House(2, 1, 5) == House(2, 0, 5), False)
        self.assertIs(House(2, 1, 5) == House(3, 1, 5), False)
        # A file that was brought and dropped stays in the number of the next.
        one = House(2, 1, 5)
        one.bring((1, 2))
        one.drop(0)
        self.assertIs(one == House(2, 1, 5), False)

    def test_with_nothing_else(self):
        for house in (House(2, 1, 5), self.house()):
            for thing in ANYTHING + (show_house(house), Plain(2, 1, 5), 0, 2, house.files()):
                self.assertIs(house == thing, False)
                self.assertIs(house != thing, True)
                self.assertIs(thing == house, False)

    def test_same_day_lost_or_unheard_is_alike(self):
        one, other = House(2, 0, 5), House(2, 0, 5)
        for house in (one, other):
            house.bring((3,))
            house.day((0, None))
            house.away(0)
            house.away(1)
        one.call()
        other.lose()
        self.assertEqual(one, other)


if __name__ == "__main__":
    unittest.main()
