import itertools
import math
import unittest

from lackcry.lots import choose, lot_at, lots
from lackcry.shelves import has, lack, shelf
from tests.helpers import STEPS, drawn, drawn_file, line_steps, same_kind


class Shelf(unittest.TestCase):
    def test_all_lots_gone_through(self):
        source = drawn("shelf")
        for hands in range(1, 8):
            for t in range(hands + 1):
                file = drawn_file(source, 7, math.comb(hands, t))
                for hand in range(hands):
                    every = itertools.combinations(range(hands), t)
                    wanted = tuple(file[number] if hand in lot else None for number, lot in enumerate(every))
                    self.assertTrue(same_kind(shelf(hands, t, hand, file), wanted))
                    self.assertEqual(shelf(file=file, hand=hand, t=t, hands=hands), wanted)

    def test_nought_is_no_none(self):
        self.assertTrue(same_kind(shelf(2, 1, 0, (0, 0)), (0, None)))
        self.assertTrue(same_kind(shelf(2, 1, 1, (0, 0)), (None, 0)))

    def test_nothing_and_all(self):
        for hands in (1, 2, 6, 60):
            for hand in (0, hands - 1):
                self.assertTrue(same_kind(shelf(hands, 0, hand, (5,)), (None,)))
                self.assertTrue(same_kind(shelf(hands, hands, hand, (5,)), (5,)))

    def test_sixty_hands(self):
        for t in (1, 2, 58, 59):
            file = tuple(range(choose(60, t)))
            for hand in (0, 31, 59):
                told = shelf(60, t, hand, file)
                self.assertEqual(told, tuple(n if hand in lot else None for n, lot in enumerate(lots(60, t))))
                self.assertEqual(told.count(None), lack(60, t))

    def test_somewhat_beyond_two_thousand_nothing_is_refused(self):
        told = shelf(14, 5, 3, tuple(range(2002)))
        self.assertEqual(told.count(None), lack(14, 5))


class Has(unittest.TestCase):
    def test_all_lots_gone_through(self):
        for hands in range(1, 9):
            for t in range(hands + 1):
                for number, lot in enumerate(itertools.combinations(range(hands), t)):
                    for hand in range(hands):
                        self.assertIs(has(hands, t, hand, number), hand in lot)
                        self.assertIs(has(number=number, hand=hand, t=t, hands=hands), hand in lot)

    def test_sixty_hands_any_t(self):
        source = drawn("has")
        for hands in (59, 60):
            for t in range(hands + 1):
                many = math.comb(hands, t)
                for number in {0, many // 2, many - 1, source.randrange(many), source.randrange(many)}:
                    lot = lot_at(hands, t, number)
                    told = tuple(hand for hand in range(hands) if has(hands, t, hand, number))
                    self.assertEqual(told, lot)

    def test_first_and_last_of_sixty(self):
        for t in range(61):
            for hand in range(60):
                self.assertIs(has(60, t, hand, 0), hand < t)
                self.assertIs(has(60, t, hand, math.comb(60, t) - 1), hand >= 60 - t)

    def test_few_steps(self):
        for t in range(61):
            many = math.comb(60, t)
            for number in (0, many // 3, many - 1):
                self.assertLess(line_steps(lambda: has(60, t, 59, number)), STEPS)
            self.assertLess(line_steps(lambda: lack(60, t)), STEPS)


class Lack(unittest.TestCase):
    def test_all_lots_gone_through(self):
        for hands in range(1, 9):
            for t in range(hands + 1):
                for hand in range(hands):
                    wanted = len([lot for lot in itertools.combinations(range(hands), t) if hand not in lot])
                    self.assertTrue(same_kind(lack(hands, t), wanted))
                    self.assertEqual(lack(t=t, hands=hands), wanted)
                    self.assertEqual(shelf(hands, t, hand, (0,) * math.comb(hands, t)).count(None), wanted)

    def test_to_sixty_hands(self):
        for hands in range(1, 61):
            for t in range(hands + 1):
                # All lots, less those with the hand.
                wanted = math.comb(hands, t) - (math.comb(hands - 1, t - 1) if t else 0)
                self.assertTrue(same_kind(lack(hands, t), wanted))
            self.assertEqual(lack(hands, hands), 0)
            self.assertEqual(lack(hands, 0), 1)


if __name__ == "__main__":
    unittest.main()
