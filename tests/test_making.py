import math
import unittest

from lackcry.errors import NoNumber
from lackcry.lots import is_lot, lots
from lackcry.making import is_made, made, made_at, made_lots, made_number
from lackcry.wishes import leaders
from tests.helpers import (
    ANYTHING, NO_NUMBERS, STEPS, drawn, drawn_lot, few_wishes, led_by, led_lots, line_steps, same_kind, sixty_wishes,
)


def numbers_between(many):
    """The first and last numbers and some between, of so many."""
    near = (0, 1, many // 3, many // 2, many * 6 // 7, many - 2, many - 1)
    return sorted({number for number in near if 0 <= number < many})


class FewHandsGoneThrough(unittest.TestCase):
    def test_made(self):
        for wishes in few_wishes(7):
            for t in range(len(wishes) + 1):
                wanted = len(led_lots(t, wishes))
                self.assertTrue(same_kind(made(t, wishes), wanted), (t, wishes))
                self.assertEqual(made(wishes=wishes, t=t), wanted)

    def test_is_made(self):
        for wishes in few_wishes(7):
            leads = led_by(wishes)
            for size in range(len(wishes) + 1):
                for lot in lots(len(wishes), size):
                    wanted = bool(leads & set(lot))
                    self.assertIs(is_made(wishes, lot), wanted)
                    self.assertIs(is_made(lot=lot, wishes=wishes), wanted)

    def test_made_at(self):
        for wishes in few_wishes(7):
            for t in range(len(wishes) + 1):
                there = led_lots(t, wishes)
                for number, lot in enumerate(there):
                    self.assertTrue(same_kind(made_at(t, wishes, number), lot))
                    self.assertEqual(made_at(number=number, wishes=wishes, t=t), lot)
                for number in (len(there), len(there) + 1, -1):
                    with self.assertRaises(NoNumber) as caught:
                        made_at(t, wishes, number)
                    self.assertEqual(caught.exception.thing, number)

    def test_made_number(self):
        for wishes in few_wishes(7):
            for t in range(len(wishes)):
                there = led_lots(t, wishes)
                for lot in lots(len(wishes), t + 1):
                    wanted = there.index(lot) if lot in there else None
                    self.assertTrue(same_kind(made_number(wishes, lot), wanted), (wishes, lot))
                    self.assertEqual(made_number(lot=lot, wishes=wishes), wanted)

    def test_made_lots(self):
        for wishes in few_wishes(7):
            for t in range(len(wishes) + 1):
                self.assertTrue(same_kind(made_lots(t, wishes), tuple(led_lots(t, wishes))))


class SixtyHands(unittest.TestCase):
    def test_numbers_there_and_back(self):
        for wishes in sixty_wishes():
            leads = led_by(wishes)
            for t in range(60):
                many = made(t, wishes)
                self.assertEqual(many, math.comb(60, t + 1) - math.comb(60 - len(leads), t + 1))
                told = [made_at(t, wishes, number) for number in numbers_between(many)]
                self.assertEqual(told, sorted(told))
                for number, lot in zip(numbers_between(many), told):
                    self.assertTrue(is_lot(60, t + 1, lot))
                    self.assertTrue(leads & set(lot))
                    self.assertTrue(is_made(wishes, lot))
                    self.assertEqual(made_number(wishes, lot), number)

    def test_drawn_lots_there_and_back(self):
        source = drawn("drawn lots")
        for wishes in sixty_wishes():
            for size in range(1, 61):
                lot = drawn_lot(source, 60, size)
                number = made_number(wishes, lot)
                self.assertEqual(number is None, not led_by(wishes) & set(lot))
                if number is not None:
                    self.assertTrue(0 <= number < made(size - 1, wishes))
                    self.assertEqual(made_at(size - 1, wishes, number), lot)

    def test_agrees_with_all_gone_through(self):
        for wishes in sixty_wishes():
            for t in (0, 1, 58, 59):
                there = led_lots(t, wishes)
                self.assertEqual([made_number(wishes, lot) for lot in there], list(range(len(there))))
                self.assertEqual(made(t, wishes), len(there))
                self.assertEqual(made_lots(t, wishes), tuple(there))
                for number in numbers_between(len(there)):
                    self.assertEqual(made_at(t, wishes, number), there[number])

    def test_made_lots_where_few_of_many_are_made(self):
        wishes = (None,) * 20 + (8,) * 40
        self.assertEqual(made_lots(2, wishes), tuple(led_lots(2, wishes)))
        self.assertEqual(len(made_lots(2, wishes)), made(2, wishes))

    def test_no_leader_no_number(self):
        for size in range(1, 60):
            self.assertIsNone(made_number((4,) * 60, tuple(range(1, size + 1))))
            self.assertIsNone(made_number((4,) * 60, tuple(range(60 - size, 60))))
            self.assertIsNone(made_number((None,) * 60, tuple(range(size))))
        self.assertEqual(made_number((4,) * 60, tuple(range(60))), 0)

    def test_few_steps(self):
        for wishes in sixty_wishes():
            for t in range(0, 60, 3):
                many = made(t, wishes)
                self.assertLess(line_steps(lambda: made(t, wishes)), STEPS)
                for number in (0, many // 2, many - 1):
                    lot = made_at(t, wishes, number)
                    self.assertLess(line_steps(lambda: made_at(t, wishes, number)), STEPS)
                    self.assertLess(line_steps(lambda: made_number(wishes, lot)), STEPS)
                    self.assertLess(line_steps(lambda: is_made(wishes, lot)), STEPS)


class Refused(unittest.TestCase):
    def refused(self, t, wishes, thing):
        before = repr(thing)
        with self.assertRaises(NoNumber) as caught:
            made_at(t, wishes, thing)
        self.assertIs(caught.exception.thing, thing)
        self.assertEqual(repr(thing), before)

    def test_what_is_no_number(self):
        for wishes in ((0,), (0, None, 0, 1), (1,) * 6, tuple(range(60)), (None,) * 59 + (2,)):
            for t in (0, 1, len(wishes) // 2, len(wishes) - 1, len(wishes)):
                for thing in NO_NUMBERS:
                    self.refused(t, wishes, thing)
                many = made(t, wishes)
                for number in (many, many + 1, 2 * many + 1, 10 ** 30, -1, -many - 1):
                    self.refused(t, wishes, number)
        for thing in ANYTHING:
            self.refused(1, (0, None, 0, 1), thing)

    def test_nobody_wishes(self):
        for hands in (1, 2, 6, 60):
            for t in range(hands + 1):
                self.assertTrue(same_kind(made(t, (None,) * hands), 0))
                self.refused(t, (None,) * hands, 0)
                self.assertEqual(made_lots(t, (None,) * hands), ())
            self.assertIs(is_made((None,) * hands, (0,)), False)

    def test_t_as_many_as_hands(self):
        for wishes in list(few_wishes(5)) + list(sixty_wishes()):
            self.assertTrue(same_kind(made(len(wishes), wishes), 0))
            self.refused(len(wishes), wishes, 0)
            self.assertEqual(made_lots(len(wishes), wishes), ())

    def test_all_hands_are_one_lot(self):
        for wishes in list(few_wishes(5)) + list(sixty_wishes()):
            if leaders(wishes):
                whole = tuple(range(len(wishes)))
                self.assertEqual(made(len(wishes) - 1, wishes), 1)
                self.assertEqual(made_at(len(wishes) - 1, wishes, 0), whole)
                self.assertEqual(made_number(wishes, whole), 0)


if __name__ == "__main__":
    unittest.main()
