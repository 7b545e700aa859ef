import itertools
import math
import unittest

from lackcry.errors import NoNumber, TooMany
from lackcry.lots import choose, is_lot, lot_at, lots, number_of
from tests.helpers import NO_NUMBERS, STEPS, line_steps, nested, same_kind

FEW = range(1, 9)


def gone_through(hands, size):
    """All lots, by going through all."""
    return tuple(itertools.combinations(range(hands), size))


def numbers_between(many):
    """The first and last numbers and some between, of so many."""
    near = [0, 1, 2, many // 2 - 1, many // 2, many // 2 + 1, many - 3, many - 2, many - 1]
    apart = [many * part // 29 for part in range(1, 29)]
    return sorted({number for number in near + apart if 0 <= number < many})


class Choose(unittest.TestCase):
    def test_all_by_places_and_by_names(self):
        for n in range(61):
            for k in range(62):
                many = math.comb(n, k)
                self.assertTrue(same_kind(choose(n, k), many), (n, k))
                self.assertEqual(choose(n=n, k=k), many)
                self.assertEqual(choose(k=k, n=n), many)

    def test_none_where_k_is_above_n(self):
        for n in range(61):
            for k in range(n + 1, 62):
                self.assertTrue(same_kind(choose(n, k), 0), (n, k))

    def test_counts_what_is_gone_through(self):
        for n in range(11):
            for k in range(13):
                self.assertEqual(choose(n, k), len(gone_through(n, k)))

    def test_somewhat_beyond_the_limits_nothing_is_refused(self):
        for n in range(61, 66):
            for k in range(68):
                self.assertEqual(choose(n, k), math.comb(n, k))
        self.assertEqual(choose(5, -1), 0)
        self.assertEqual(choose(60, 100), 0)


class IsLot(unittest.TestCase):
    def check(self, wanted, hands, size, thing):
        before = repr(thing)
        told = is_lot(hands, size, thing)
        self.assertIs(told, wanted, (hands, size, thing))
        self.assertIs(is_lot(thing=thing, size=size, hands=hands), wanted)
        self.assertEqual(repr(thing), before)

    def test_all_rows_of_few_hands(self):
        for hands in range(1, 5):
            for long in range(hands + 2):
                for row in itertools.product(range(-1, hands + 1), repeat=long):
                    for size in range(hands + 2):
                        self.check(row in gone_through(hands, size), hands, size, row)

    def test_sixty_hands(self):
        for size in range(61):
            many = choose(60, size)
            for number in numbers_between(many):
                lot = lot_at(60, size, number)
                self.check(True, 60, size, lot)
                self.check(False, 60, size + 1, lot)
                self.check(False, 60, size - 1, lot)
        self.check(True, 60, 60, tuple(range(60)))
        self.check(False, 60, 60, tuple(range(1, 61)))
        self.check(False, 60, 60, tuple(range(-1, 59)))
        self.check(False, 60, 60, tuple(range(59, -1, -1)))

    def test_no_size_above_the_hands_has_lots(self):
        self.check(False, 3, 4, (0, 1, 2, 3))
        self.check(False, 3, 4, (0, 1, 2))
        self.check(False, 60, 61, tuple(range(61)))

    def test_a_truth_is_no_hand(self):
        for thing in ((True,), (False,)):
            self.check(False, 3, 1, thing)
        for thing in ((False, 1), (0, True), (False, True), (True, 2)):
            self.check(False, 3, 2, thing)
        self.check(True, 3, 2, (0, 1))

    def test_hands_beyond_the_hands(self):
        for thing in ((-1, 0), (0, 3), (3, 4), (-2, -1), (0, 10 ** 30), (-(10 ** 30), 0)):
            self.check(False, 3, 2, thing)

    def test_a_hand_twice_or_two_exchanged(self):
        for thing in ((0, 0), (2, 2), (1, 0), (2, 0), (2, 1)):
            self.check(False, 3, 2, thing)
        for thing in ((0, 1, 1), (0, 0, 1), (0, 2, 1), (1, 0, 2), (2, 1, 0)):
            self.check(False, 4, 3, thing)

    def test_one_hand_more_and_one_fewer(self):
        for size in range(1, 6):
            lot = tuple(range(size))
            self.check(True, 6, size, lot)
            self.check(False, 6, size, lot + (size,))
            self.check(False, 6, size, lot[:-1])

    def test_other_things_in_the_place_of_a_hand(self):
        for thing in NO_NUMBERS:
            self.check(False, 60, 1, (thing,))
            self.check(False, 60, 2, (0, thing))
            self.check(False, 60, 2, (thing, 59))
            self.check(False, 60, 3, (0, thing, 59))

    def test_other_things_in_the_place_of_a_lot(self):
        for thing in NO_NUMBERS + (0, 1, 2, "01", "ab", b"", b"\x00", [0, 1, 2], {0: 0, 1: 1}):
            for size in range(4):
                wanted = same_kind(thing, gone_through(3, size)[0]) if size < 3 else False
                self.check(wanted, 3, size, thing)

    def test_the_empty_lot(self):
        self.check(True, 1, 0, ())
        self.check(True, 60, 0, ())
        for thing in ([], {}, "", None, False, 0, ((),)):
            self.check(False, 60, 0, thing)

    def test_thirty_deep(self):
        for wrap in (lambda t: (t,), lambda t: [t], lambda t: (0, t), lambda t: {"a": t}):
            deep = nested(0, 30, wrap)
            for size in range(4):
                self.check(False, 60, size, deep)


class LotAt(unittest.TestCase):
    def test_agrees_with_all_gone_through(self):
        for hands in FEW:
            for size in range(hands + 1):
                for number, lot in enumerate(gone_through(hands, size)):
                    self.assertTrue(same_kind(lot_at(hands, size, number), lot))
                    self.assertEqual(lot_at(number=number, hands=hands, size=size), lot)

    def refused(self, hands, size, thing):
        before = repr(thing)
        with self.assertRaises(NoNumber) as caught:
            lot_at(hands, size, thing)
        self.assertIs(caught.exception.thing, thing)
        self.assertEqual(repr(thing), before)

    def test_refuses_what_is_no_number_there(self):
        for hands, size in ((1, 0), (1, 1), (4, 2), (6, 0), (6, 6), (60, 1), (60, 30), (60, 60)):
            for thing in NO_NUMBERS:
                self.refused(hands, size, thing)

    def test_refuses_just_from_how_many_there_are(self):
        for hands in (1, 2, 5, 8, 59, 60):
            for size in range(hands + 1):
                many = math.comb(hands, size)
                self.assertTrue(is_lot(hands, size, lot_at(hands, size, many - 1)))
                for number in (many, many + 1, many * 2, many + 10 ** 30, -1, -many):
                    self.refused(hands, size, number)

    def test_no_lot_above_the_hands_has_a_number(self):
        for hands in (1, 3, 60):
            for number in (0, 1, -1, None):
                self.refused(hands, hands + 1, number)

    def test_refusal_is_told_of_the_same_kind(self):
        with self.assertRaises(NoNumber) as caught:
            lot_at(4, 2, True)
        self.assertIs(caught.exception.thing, True)
        with self.assertRaises(LookupError):
            lot_at(4, 2, 6)


class NumberOf(unittest.TestCase):
    def test_agrees_with_all_gone_through(self):
        for hands in FEW:
            for size in range(hands + 1):
                for number, lot in enumerate(gone_through(hands, size)):
                    self.assertTrue(same_kind(number_of(hands, lot), number))
                    self.assertEqual(number_of(lot=lot, hands=hands), number)

    def test_sixty_hands_there_and_back(self):
        for hands in (57, 59, 60):
            for size in range(hands + 1):
                numbers = numbers_between(math.comb(hands, size))
                told = [lot_at(hands, size, number) for number in numbers]
                self.assertEqual([number_of(hands, lot) for lot in told], numbers)
                self.assertEqual(told, sorted(told))
                for lot in told:
                    self.assertTrue(is_lot(hands, size, lot))

    def test_sixty_hands_first_and_last(self):
        for size in range(61):
            first = tuple(range(size))
            last = tuple(range(60 - size, 60))
            self.assertEqual(lot_at(60, size, 0), first)
            self.assertEqual(number_of(60, first), 0)
            self.assertEqual(lot_at(60, size, math.comb(60, size) - 1), last)
            self.assertEqual(number_of(60, last), math.comb(60, size) - 1)

    def test_sixty_hands_next_ones_rise_by_one(self):
        for size in (1, 2, 7, 29, 30, 31, 58, 59):
            for number in numbers_between(math.comb(60, size) - 1):
                lot = lot_at(60, size, number)
                behind = next_lot(60, lot)
                self.assertEqual(number_of(60, behind), number + 1)
                self.assertEqual(lot_at(60, size, number + 1), behind)


def next_lot(hands, lot):
    """The lot right behind this one: the last hand that can goes up by one."""
    size = len(lot)
    place = max(at for at in range(size) if lot[at] < hands - size + at)
    rise = lot[place] + 1
    return lot[:place] + tuple(range(rise, rise + size - place))


class Lots(unittest.TestCase):
    def test_few_hands_gone_through(self):
        for hands in range(1, 13):
            for size in range(hands + 2):
                told = lots(hands, size)
                self.assertTrue(same_kind(told, gone_through(hands, size)))
                self.assertEqual(lots(size=size, hands=hands), told)
                self.assertEqual(len(told), choose(hands, size))

    def test_agrees_with_numbers(self):
        for hands, size in ((8, 3), (13, 4), (60, 1), (60, 2), (60, 58), (60, 59), (60, 60)):
            told = lots(hands, size)
            self.assertEqual(told, gone_through(hands, size))
            self.assertEqual([number_of(hands, lot) for lot in told], list(range(len(told))))
            many = choose(hands, size)
            self.assertEqual(told, tuple(lot_at(hands, size, number) for number in range(many)))

    def test_empty_and_whole(self):
        for hands in range(1, 61):
            self.assertEqual(lots(hands, 0), ((),))
            self.assertEqual(lots(hands, hands), (tuple(range(hands)),))
            self.assertEqual(lots(hands, hands + 1), ())

    def test_refuses_just_above_two_thousand(self):
        for hands in range(1, 61):
            for size in range(hands + 1):
                many = math.comb(hands, size)
                if many > 2000:
                    with self.assertRaises(TooMany) as caught:
                        lots(hands, size)
                    self.assertTrue(same_kind(caught.exception.many, many))
                else:
                    self.assertEqual(len(lots(hands, size)), many)

    def test_just_two_thousand_are_told(self):
        # Only lots of one hand come to just so many; so many hands are beyond the limit.
        self.assertEqual(lots(2000, 1), gone_through(2000, 1))
        with self.assertRaises(TooMany) as caught:
            lots(2001, 1)
        self.assertEqual(caught.exception.many, 2001)

    def test_refusal_counts_all(self):
        with self.assertRaises(TooMany) as caught:
            lots(60, 30)
        self.assertEqual(caught.exception.many, 118264581564861424)
        with self.assertRaises(TooMany) as caught:
            lots(14, 5)
        self.assertEqual(caught.exception.many, 2002)


class Throughout(unittest.TestCase):
    def test_the_same_question_is_told_the_same(self):
        self.assertEqual(lots(6, 3), lots(6, 3))
        self.assertEqual(lot_at(60, 30, 10 ** 15), lot_at(60, 30, 10 ** 15))

    def test_nothing_handed_in_is_changed(self):
        thing = [0, [1], {"a": (2, [3])}]
        is_lot(5, 3, thing)
        with self.assertRaises(NoNumber) as caught:
            lot_at(5, 3, thing)
        self.assertIs(caught.exception.thing, thing)
        self.assertEqual(thing, [0, [1], {"a": (2, [3])}])
        row = (0, 2, 4)
        number_of(5, row)
        self.assertEqual(row, (0, 2, 4))

    def test_few_steps_for_sixty_hands(self):
        for size in range(61):
            many = math.comb(60, size)
            self.assertLess(line_steps(lambda: choose(60, size)), STEPS)
            for number in (0, many // 3, many // 2, many - 1):
                lot = lot_at(60, size, number)
                self.assertLess(line_steps(lambda: lot_at(60, size, number)), STEPS)
                self.assertLess(line_steps(lambda: number_of(60, lot)), STEPS)
                self.assertLess(line_steps(lambda: is_lot(60, size, lot)), STEPS)


if __name__ == "__main__":
    unittest.main()
