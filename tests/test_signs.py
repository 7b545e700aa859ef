import itertools
import unittest

from lackcry.lots import choose, is_lot, lot_at, lots
from lackcry.signs import laid, sign, with_hand, without
from tests.helpers import STEPS, line_steps, parity, same_kind

FEW = 6


def few_lots(hands=FEW):
    """All lots of few hands, of every size."""
    return [lot for size in range(hands + 1) for lot in lots(hands, size)]


def sixty_lots():
    """Lots of sixty hands, of every size."""
    told = []
    for size in range(61):
        many = choose(60, size)
        for number in sorted({0, many // 7, many // 3, many // 2, many * 3 // 4, many - 1}):
            if number < many:
                told.append(lot_at(60, size, number))
    return told


def rest(hands, lot):
    """The lot of all other hands."""
    return tuple(hand for hand in range(hands) if hand not in lot)


class Sign(unittest.TestCase):
    def test_by_how_many_are_lesser(self):
        for lot in few_lots() + sixty_lots():
            for place, hand in enumerate(lot):
                wanted = 1 if place % 2 == 0 else -1
                self.assertTrue(same_kind(sign(hand, lot), wanted), (hand, lot))
                self.assertEqual(sign(lot=lot, hand=hand), wanted)

    def test_told_ones(self):
        self.assertEqual(sign(4, (4,)), 1)
        self.assertEqual(sign(4, (1, 4)), -1)
        self.assertEqual(sign(1, (1, 4)), 1)
        self.assertEqual(sign(59, tuple(range(60))), -1)
        self.assertEqual(sign(58, tuple(range(60))), 1)

    def test_is_that_of_the_hand_laid_ahead(self):
        for lot in few_lots() + sixty_lots():
            for hand in lot:
                self.assertEqual(laid((hand,), without(lot, hand)), (sign(hand, lot), lot))


class Laid(unittest.TestCase):
    def test_few_hands_gone_through(self):
        for one in few_lots():
            for other in few_lots():
                told = laid(one, other)
                self.assertEqual(laid(other=other, one=one), told)
                if set(one) & set(other):
                    self.assertTrue(same_kind(told, (0, ())), (one, other))
                    continue
                above = len([1 for a in one for b in other if a > b])
                wanted = (1 if above % 2 == 0 else -1, tuple(sorted(one + other)))
                self.assertTrue(same_kind(told, wanted), (one, other))
                self.assertEqual(told[0], parity(one + other))

    def test_sixty_hands(self):
        for one in sixty_lots():
            left = rest(60, one)
            for other in (left, left[::2], left[1::2], left[:7], left[-5:], ()):
                told = laid(one, other)
                self.assertEqual(told, (parity(one + other), tuple(sorted(one + other))))
                self.assertTrue(is_lot(60, len(one) + len(other), told[1]))

    def test_of_empty_lots(self):
        self.assertTrue(same_kind(laid((), ()), (1, ())))
        for lot in few_lots() + sixty_lots():
            self.assertTrue(same_kind(laid(lot, ()), (1, lot)))
            self.assertTrue(same_kind(laid((), lot), (1, lot)))

    def test_hand_in_common(self):
        for one, other in (((0,), (0,)), ((0, 5), (5, 7)), ((0, 5), (0, 7)), ((1, 2, 3), (3,)), ((59,), (58, 59))):
            self.assertTrue(same_kind(laid(one, other), (0, ())))
            self.assertTrue(same_kind(laid(other, one), (0, ())))
        for lot in sixty_lots():
            if lot:
                self.assertTrue(same_kind(laid(lot, lot), (0, ())))
                self.assertTrue(same_kind(laid(lot, lot[-1:]), (0, ())))
                self.assertTrue(same_kind(laid(lot[:1], lot), (0, ())))

    def test_row_that_does_not_rise_with_a_hand_in_common(self):
        for one in few_lots(4):
            for long in range(1, 4):
                for row in itertools.product(range(4), repeat=long):
                    if set(one) & set(row):
                        self.assertTrue(same_kind(laid(one, row), (0, ())), (one, row))
        whole = tuple(range(60))
        for one in sixty_lots():
            if one:
                self.assertTrue(same_kind(laid(one, whole[::-1]), (0, ())))
                self.assertTrue(same_kind(laid(one, (one[-1], 0, one[-1], 59)), (0, ())))

    def test_turned_about_by_the_product_of_sizes(self):
        pairs = [(one, other) for one in few_lots() for other in few_lots()]
        pairs += [(one, rest(60, one)) for one in sixty_lots()]
        for one, other in pairs:
            turn = -1 if len(one) * len(other) % 2 else 1
            here, lot = laid(one, other)
            self.assertEqual(laid(other, one), (here * turn, lot))

    def test_goes_together_in_rows(self):
        rows = [row for row in itertools.product(few_lots(4), repeat=3)]
        rows += [(one, rest(60, one)[::2], rest(60, one)[1::2]) for one in sixty_lots()]
        for one, two, three in rows:
            first, ahead = laid(one, two)
            second, behind = laid(two, three)
            last, whole = laid(ahead, three)
            final, all_of_it = laid(one, behind)
            self.assertEqual(first * last, second * final)
            if first * last:
                self.assertEqual(whole, all_of_it)


class WithoutAndWith(unittest.TestCase):
    def test_without_each_hand(self):
        for lot in few_lots() + sixty_lots():
            for place, hand in enumerate(lot):
                wanted = lot[:place] + lot[place + 1:]
                self.assertTrue(same_kind(without(lot, hand), wanted))
                self.assertEqual(without(hand=hand, lot=lot), wanted)

    def test_with_each_other_hand(self):
        for hands, told in ((FEW, few_lots()), (60, sixty_lots())):
            for lot in told:
                for hand in rest(hands, lot):
                    more = with_hand(lot, hand)
                    self.assertTrue(is_lot(hands, len(lot) + 1, more))
                    self.assertEqual(set(more), set(lot) | {hand})
                    self.assertEqual(with_hand(hand=hand, lot=lot), more)
                    self.assertEqual(without(more, hand), lot)

    def test_one_hand(self):
        self.assertTrue(same_kind(without((3,), 3), ()))
        self.assertTrue(same_kind(with_hand((), 3), (3,)))
        self.assertTrue(same_kind(with_hand((0, 5), 3), (0, 3, 5)))


class Throughout(unittest.TestCase):
    def test_nothing_handed_in_is_changed(self):
        one, other = (1, 4), (0, 3)
        laid(one, other)
        sign(4, one)
        without(one, 4)
        with_hand(one, 2)
        self.assertEqual((one, other), ((1, 4), (0, 3)))

    def test_few_steps_for_sixty_hands(self):
        whole = tuple(range(60))
        self.assertLess(line_steps(lambda: laid(whole, whole)), STEPS)
        self.assertLess(line_steps(lambda: laid(whole, whole[::-1])), STEPS)
        for lot in sixty_lots():
            left = rest(60, lot)
            self.assertLess(line_steps(lambda: laid(lot, left)), STEPS)
            if lot:
                self.assertLess(line_steps(lambda: sign(lot[-1], lot)), STEPS)
                self.assertLess(line_steps(lambda: without(lot, lot[0])), STEPS)
            if left:
                self.assertLess(line_steps(lambda: with_hand(lot, left[0])), STEPS)


if __name__ == "__main__":
    unittest.main()
