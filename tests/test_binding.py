import itertools
import math
import unittest

from lackcry.binding import binding, shows_binding
from lackcry.errors import TooMany
from lackcry.making import made
from tests.helpers import (
    ANYTHING, drawn, few_wishes, led_by, same_kind, sixty_wishes, spoilt,
)


def by_words(t, wishes):
    """Leader by leader all lots, gone through."""
    told = []
    ahead = set()
    for leader in sorted(led_by(wishes)):
        ahead.add(leader)
        for lot in itertools.combinations(range(len(wishes)), t):
            if not ahead & set(lot):
                told.append((leader, wishes[leader], lot))
    return tuple(told)


def binds(t, wishes, rows):
    """Whether right rows bind, by going through all pairs."""
    for at, (hand, number, lot) in enumerate(rows):
        if wishes[hand] != number or number is None:
            return False
        for other, behind, later in rows[at:]:
            if hand in later:
                return False
        for other, behind, later in rows[at + 1:]:
            if (behind, later) == (number, lot):
                return False
    return True


def is_right(t, wishes, thing):
    """Whether all of it is of the right kind, each (hand, number, lot of t hands), asked for with care."""
    hands = len(wishes)
    every = [repr(lot) for lot in itertools.combinations(range(hands), t)]
    if type(thing) is not tuple:
        return False
    for row in thing:
        if type(row) is not tuple or len(row) != 3:
            return False
        if type(row[0]) is not int or type(row[1]) is not int or not 0 <= row[0] < hands or repr(row[2]) not in every:
            return False
    return True


def told_by_order(t, wishes, order):
    """The longest binding row whose hands first come in this order."""
    rows = []
    seen = set()
    for at, hand in enumerate(order):
        for lot in itertools.combinations(range(len(wishes)), t):
            if not set(order[:at + 1]) & set(lot) and (wishes[hand], lot) not in seen:
                seen.add((wishes[hand], lot))
                rows.append((hand, wishes[hand], lot))
    return tuple(rows)


def wishing(wishes):
    return [hand for hand, wish in enumerate(wishes) if wish is not None]


class Binding(unittest.TestCase):
    def test_all_lots_gone_through(self):
        for wishes in few_wishes(8):
            for t in range(len(wishes) + 1):
                before = repr(wishes)
                told = binding(t, wishes)
                self.assertTrue(same_kind(told, by_words(t, wishes)), (t, wishes))
                self.assertEqual(binding(wishes=wishes, t=t), told)
                self.assertEqual(len(told), made(t, wishes))
                self.assertIs(shows_binding(t, wishes, told), True)
                self.assertEqual(repr(wishes), before)

    def test_nobody_wishes_or_nobody_lacks(self):
        for hands in (1, 2, 6, 60):
            for t in range(hands + 1):
                self.assertEqual(binding(t, (None,) * hands), ())
            self.assertEqual(binding(hands, tuple(range(hands))), ())
            self.assertEqual(binding(hands, (4,) * hands), ())

    def test_sixty_hands(self):
        for wishes in sixty_wishes():
            for t in range(61):
                many = math.comb(60, t + 1) - math.comb(60 - len(led_by(wishes)), t + 1)
                if many > 2000:
                    with self.assertRaises(TooMany) as caught:
                        binding(t, wishes)
                    self.assertTrue(same_kind(caught.exception.many, many))
                    continue
                told = binding(t, wishes)
                self.assertEqual(len(told), many)
                self.assertIs(shows_binding(t, wishes, told), True)
                if t in (0, 1, 2, 58, 59, 60):
                    self.assertTrue(same_kind(told, by_words(t, wishes)))

    def test_at_the_edge(self):
        for hands, t, leads, many in ((39, 2, 3, 1999), (14, 4, 8, 1996), (14, 8, 4, 1992)):
            wishes = tuple(range(leads)) + (None,) * (hands - leads)
            self.assertTrue(same_kind(binding(t, wishes), by_words(t, wishes)))
            self.assertEqual(len(binding(t, wishes)), many)
        for hands, t, leads, many in ((14, 4, 9, 2001), (14, 8, 5, 2001), (14, 4, 10, 2002), (60, 2, 2, 3364)):
            wishes = (0,) * (hands - leads + 1) + tuple(range(1, leads))
            with self.assertRaises(TooMany) as caught:
                binding(t, wishes)
            self.assertTrue(same_kind(caught.exception.many, many))

    def test_none_is_longer_in_any_order_of_hands(self):
        for wishes in few_wishes(6):
            for t in range(len(wishes) + 1):
                most = made(t, wishes)
                orders = list(itertools.permutations(wishing(wishes)))
                for order in orders if len(wishes) < 6 else orders[::17]:
                    told = told_by_order(t, wishes, order)
                    self.assertLessEqual(len(told), most)
                    if len(wishes) < 5:
                        self.assertIs(shows_binding(t, wishes, told), True)

    def test_none_is_longer_of_all_rows_of_two_and_three_hands(self):
        for wishes in ((0, 0), (0, 1), (None, 2), (0, 0, 0), (0, 1, 0), (1, 0, 0), (None, 3, 3), (0, None, 1)):
            for t in range(len(wishes) + 1):
                lots = list(itertools.combinations(range(len(wishes)), t))
                rows = [(hand, wishes[hand], lot) for hand in wishing(wishes) for lot in lots]
                self.assertEqual(self.longest(t, wishes, rows, ()), made(t, wishes))

    def longest(self, t, wishes, rows, ahead):
        further = [ahead + (row,) for row in rows]
        there = [more for more in further if shows_binding(t, wishes, more)]
        return max([len(ahead)] + [self.longest(t, wishes, rows, more) for more in there])


class ShowsBinding(unittest.TestCase):
    def told(self, t, wishes, thing, wanted):
        before = repr((thing, wishes))
        self.assertIs(shows_binding(t, wishes, thing), wanted, (t, wishes, thing))
        self.assertIs(shows_binding(thing=thing, wishes=wishes, t=t), wanted)
        self.assertEqual(repr((thing, wishes)), before)

    def test_any_order_and_some_rows_left_out(self):
        source = drawn("orders")
        for wishes in few_wishes(6):
            for t in range(len(wishes) + 1):
                order = wishing(wishes)
                source.shuffle(order)
                rows = told_by_order(t, wishes, order)
                self.told(t, wishes, rows, True)
                self.told(t, wishes, tuple(row for row in rows if source.randrange(3)), True)
                self.told(t, wishes, (), True)
                # Rows of one hand stand in any order.
                for hand in order[:1]:
                    alone = [row for row in rows if row[0] == hand]
                    source.shuffle(alone)
                    self.told(t, wishes, tuple(alone), True)

    def test_rows_drawn_against_all_pairs(self):
        source = drawn("drawn rows")
        seen = set()
        for wishes in few_wishes(5):
            for t in range(len(wishes)):
                lots = list(itertools.combinations(range(len(wishes)), t))
                for _ in range(12):
                    order = wishing(wishes)
                    source.shuffle(order)
                    rows = list(told_by_order(t, wishes, order))
                    rows = [row for row in rows if source.randrange(4)]
                    kind = source.randrange(6)
                    if kind == 0 and rows:
                        rows.insert(source.randrange(len(rows) + 1), source.choice(rows))
                    elif kind == 1 and rows:
                        one, other = source.randrange(len(rows)), source.randrange(len(rows))
                        rows[one], rows[other] = rows[other], rows[one]
                    elif kind == 2:
                        hand = source.randrange(len(wishes))
                        rows.insert(source.randrange(len(rows) + 1), (hand, wishes[hand] or 0, source.choice(lots)))
                    elif kind == 3 and rows:
                        at = source.randrange(len(rows))
                        hand = source.randrange(len(wishes))
                        rows[at] = (hand, wishes[hand] or 0, rows[at][2])
                    elif kind == 4 and rows:
                        at = source.randrange(len(rows))
                        rows[at] = (rows[at][0], source.randrange(6), rows[at][2])
                    wanted = binds(t, wishes, rows)
                    seen.add((kind, wanted))
                    self.told(t, wishes, tuple(rows), wanted)
        self.assertTrue({(kind, False) for kind in range(5)} <= seen)

    def test_each_fault_by_itself(self):
        wishes = (5, 5, 8, None)
        right = ((0, 5, (1,)), (0, 5, (2,)), (0, 5, (3,)), (2, 8, (1,)), (2, 8, (3,)))
        self.told(1, wishes, right, True)
        self.told(1, wishes, ((1, 5, (0,)), (2, 8, (0,)), (0, 5, (3,))), True)
        for wrong in (
            right + right[-1:],
            right[:1] + ((1, 5, (2,)),) + right[1:],
            (right[3],) + right[:3] + right[4:],
            right + ((2, 8, (2,)),),
            right + ((2, 8, (0,)),),
            right[:3] + ((2, 5, (1,)),),
            right[:3] + ((1, 8, (3,)),),
            right[:3] + ((3, 5, (1,)),),
            right[:3] + ((3, None, (1,)),),
            right[:3] + ((3, 0, (1,)),),
            right[:3] + ((4, 8, (1,)),),
            right[:3] + ((-2, 8, (1,)),),
            right[:3] + ((2, 8, (1, 3)),),
            right[:3] + ((2, 8, ()),),
            right[:3] + ((2, 8, (4,)),),
            right[:3] + ((2, 8, (True,)),),
            right[:3] + ((2, 8, [1]),),
            right[:3] + ([2, 8, (1,)],),
            right[:3] + ((2, 8, (1,), 0),),
            right[:3] + ((2, 8),),
            list(right),
        ):
            self.told(1, wishes, wrong, False)
        # The same (number, lot) by two hands, and two rows exchanged so that a hand stands in a lot behind.
        self.told(1, wishes, ((0, 5, (3,)), (1, 5, (3,))), False)
        self.told(1, wishes, ((2, 8, (1,)), (0, 5, (3,))), True)
        self.told(1, wishes, ((2, 8, (0,)), (0, 5, (3,))), True)
        self.told(1, wishes, ((0, 5, (3,)), (2, 8, (0,))), False)

    def test_truths_in_the_place_of_numbers(self):
        wishes = (1, 0, 1)
        self.told(1, wishes, ((0, 1, (1,)), (1, 0, (2,))), True)
        self.told(1, wishes, ((False, 1, (1,)), (1, 0, (2,))), False)
        self.told(1, wishes, ((0, True, (1,)), (1, 0, (2,))), False)
        self.told(1, wishes, ((0, 1, (True,)), (1, 0, (2,))), False)
        self.told(1, wishes, ((0, 1, (1,)), (True, 0, (2,))), False)
        self.told(1, wishes, ((0, 1, (1,)), (1, False, (2,))), False)

    def test_of_anything(self):
        for t, wishes in ((0, (1,)), (1, (0, 1)), (0, (1, 0, None)), (1, (1, 0, 0)), (2, (0,) * 4)):
            for thing in ANYTHING:
                self.told(t, wishes, thing, thing == () and type(thing) is tuple)
                self.told(t, wishes, (thing,), False)
                for row in binding(t, wishes)[:1]:
                    for place in range(3):
                        wrong = row[:place] + (thing,) + row[place + 1:]
                        right = place == 2 and t == 0 and type(thing) is tuple and thing == ()
                        self.told(t, wishes, (wrong,), right)

    def test_told_rows_spoilt_at_any_place(self):
        for wishes in ((1,), (0, 1), (1, None, 0), (2, 1, 2), (0, 0, 1, 1)):
            for t in range(len(wishes) + 1):
                for thing in spoilt(binding(t, wishes)):
                    wanted = is_right(t, wishes, thing) and binds(t, wishes, thing)
                    self.told(t, wishes, thing, wanted)

    def test_long_rows_of_sixty_hands(self):
        wishes = tuple(hand // 2 for hand in range(60))
        told = binding(1, wishes)
        self.told(1, wishes, told, True)
        self.told(1, wishes, told + told[:1], False)
        self.told(1, wishes, told[::-1], False)


if __name__ == "__main__":
    unittest.main()
