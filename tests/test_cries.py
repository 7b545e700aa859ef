import itertools
import math
import unittest

from lackcry.cries import all_cries, comes_by, cries, cry, freed, terms
from lackcry.errors import TooMany
from lackcry.files import spread
from lackcry.lots import choose, lot_at, lots
from lackcry.making import made, made_at
from lackcry.outers import is_outer, outer, part, plus
from lackcry.wishes import wished, wishers
from tests.helpers import (
    PRIMES, STEPS, cry_by_words, drawn, drawn_file, drawn_lot, few_wishes, files_for, led_by, led_lots, line_steps,
    on_shelf, same_kind, sixty_wishes,
)


def cases(most=6):
    """(p, t, files, wishes) of one to so many hands, all t."""
    source = drawn("cases")
    for wishes in few_wishes(most):
        for t in range(len(wishes) + 1):
            p = source.choice(PRIMES)
            yield p, t, files_for(source, p, wishes, math.comb(len(wishes), t)), wishes


class Terms(unittest.TestCase):
    def test_each_lot_by_the_words(self):
        for wishes in few_wishes(7):
            for size in range(1, len(wishes) + 1):
                for lot in lots(len(wishes), size):
                    wanted = tuple(
                        ((-1) ** place, wishes[hand], lot[:place] + lot[place + 1:])
                        for place, hand in enumerate(lot)
                        if wishes[hand] is not None
                    )
                    self.assertTrue(same_kind(terms(wishes, lot), wanted))
                    self.assertEqual(terms(lot=lot, wishes=wishes), wanted)

    def test_without_any_wish(self):
        for hands in (1, 6, 60):
            self.assertTrue(same_kind(terms((None,) * hands, tuple(range(hands))), ()))
        self.assertTrue(same_kind(terms((None, 3, None), (0, 2)), ()))
        self.assertTrue(same_kind(terms((3, None, 4), (0, 1, 2)), ((1, 3, (1, 2)), (1, 4, (0, 1)))))

    def test_sixty_hands(self):
        source = drawn("terms")
        for wishes in sixty_wishes():
            for size in range(1, 61, 7):
                lot = drawn_lot(source, 60, size)
                told = terms(wishes, lot)
                wishing = [hand for hand in lot if wishes[hand] is not None]
                self.assertEqual(len(told), len(wishing))
                for hand, (way, number, small) in zip(wishing, told):
                    self.assertEqual((number, set(lot) - set(small)), (wishes[hand], {hand}))
                    self.assertEqual(way, (-1) ** lot.index(hand))


class Cry(unittest.TestCase):
    def test_each_lot_by_the_words(self):
        for p, t, files, wishes in cases():
            before = repr((files, wishes))
            for lot in itertools.combinations(range(len(wishes)), t + 1):
                wanted = cry_by_words(p, files, wishes, lot)
                self.assertTrue(same_kind(cry(p, files, wishes, lot), wanted))
                self.assertEqual(cry(lot=lot, wishes=wishes, files=files, p=p), wanted)
            self.assertEqual(repr((files, wishes)), before)

    def test_without_any_wish(self):
        self.assertTrue(same_kind(cry(7, {}, (None, None), (0, 1)), 0))
        self.assertTrue(same_kind(cry(7, {3: (1, 2, 3)}, (None, 3, None), (0, 2)), 0))

    def test_told_ones(self):
        files = {3: (1, 2, 3), 4: (4, 5, 6), 9: (0,)}
        self.assertEqual(cry(7, files, (3, 4, 3), (0, 1)), (2 - 4) % 7)
        self.assertEqual(cry(7, files, (3, 4, 3), (0, 2)), (3 - 1) % 7)
        self.assertEqual(cry(7, files, (3, 4, 3), (1, 2)), (6 - 2) % 7)
        self.assertEqual(cry(7, files, (3, None, 3), (1, 2)), (-2) % 7)

    def test_sixty_hands(self):
        source = drawn("cry")
        for wishes in sixty_wishes():
            for t in (0, 1, 2, 58, 59):
                files = files_for(source, 999999937, wishes, choose(60, t))
                lot = drawn_lot(source, 60, t + 1)
                self.assertEqual(cry(999999937, files, wishes, lot), cry_by_words(999999937, files, wishes, lot))


class Cries(unittest.TestCase):
    def test_made_ones_as_their_lots_rise(self):
        for p, t, files, wishes in cases():
            before = repr((files, wishes))
            wanted = tuple(cry_by_words(p, files, wishes, lot) for lot in led_lots(t, wishes))
            self.assertTrue(same_kind(cries(p, t, files, wishes), wanted))
            self.assertEqual(cries(wishes=wishes, files=files, t=t, p=p), wanted)
            self.assertEqual(len(wanted), made(t, wishes))
            self.assertEqual(repr((files, wishes)), before)

    def test_none_at_all(self):
        for hands in (1, 6, 60):
            self.assertTrue(same_kind(cries(7, hands, {0: (3,)}, (0,) * hands), ()))
            for t in (0, 1, hands - 1, hands):
                self.assertTrue(same_kind(cries(7, t, {}, (None,) * hands), ()))

    def test_sixty_hands(self):
        source = drawn("cries")
        p = 999999937
        for wishes in sixty_wishes():
            for t in (0, 1, 59):
                files = files_for(source, p, wishes, choose(60, t))
                told = cries(p, t, files, wishes)
                self.assertEqual(len(told), made(t, wishes))
                for number in {0, len(told) // 2, len(told) - 1}:
                    self.assertEqual(told[number], cry_by_words(p, files, wishes, made_at(t, wishes, number)))

    def refused(self, t, wishes, many):
        files = {wish: (0,) * choose(len(wishes), t) for wish in wishes if wish is not None}
        with self.assertRaises(TooMany) as caught:
            cries(7, t, files, wishes)
        self.assertTrue(same_kind(caught.exception.many, many))

    def test_refused_just_above_two_thousand(self):
        # Of 39 hands with three leaders there are 1999 made ones, of 14 with nine 2001.
        wishes = (None,) * 10 + (0, 1, 2) + (1,) * 26
        self.assertEqual(len(cries(7, 2, {number: (1,) * 741 for number in range(3)}, wishes)), 1999)
        self.refused(4, tuple(range(9)) + (0,) * 5, 2001)
        self.refused(4, tuple(range(14)), 2002)
        self.refused(2, tuple(range(60)), 34220)
        # Just 2000 there are of 2000 hands only, beyond the limit.
        files = {number: (number,) for number in range(2001)}
        self.assertEqual(cries(2003, 0, files, tuple(range(2000))), tuple(range(2000)))
        self.refused(0, tuple(range(2001)), 2001)

    def test_refused_whatever_the_files(self):
        with self.assertRaises(TooMany) as caught:
            cries(7, 29, {}, tuple(range(60)))
        self.assertEqual(caught.exception.many, math.comb(60, 30))


class AllCries(unittest.TestCase):
    def test_all_lots_gone_through(self):
        for p, t, files, wishes in cases():
            hands = len(wishes)
            before = repr((files, wishes))
            told = all_cries(p, t, files, wishes)
            self.assertEqual(all_cries(wishes=wishes, files=files, t=t, p=p), told)
            self.assertTrue(is_outer(p, hands, t + 1, told))
            for lot in itertools.combinations(range(hands), t + 1):
                self.assertEqual(part(told, lot), cry_by_words(p, files, wishes, lot))
            self.assertEqual(repr((files, wishes)), before)

    def test_is_wishers_laid_ahead_of_files(self):
        for p, t, files, wishes in cases():
            total = ()
            for number in wished(wishes):
                ahead = tuple(((hand,), 1) for hand in wishers(wishes, number))
                total = plus(p, total, outer(p, ahead, spread(p, len(wishes), t, files[number])))
            self.assertTrue(same_kind(all_cries(p, t, files, wishes), total))

    def test_noughts_left_out(self):
        self.assertTrue(same_kind(all_cries(7, 1, {0: (2, 2, 2)}, (0, 0, 0)), ()))
        self.assertTrue(same_kind(all_cries(7, 1, {}, (None,) * 3), ()))
        self.assertTrue(same_kind(all_cries(7, 3, {0: (2,)}, (0, 0, 0)), ()))
        self.assertTrue(same_kind(all_cries(7, 1, {0: (2, 2, 3)}, (0, 0, 0)), (((0, 2), 1), ((1, 2), 1))))

    def test_somewhat_beyond_two_thousand_nothing_is_refused(self):
        told = all_cries(7, 4, {0: (1,) * 1001}, (0,) + (None,) * 13)
        self.assertEqual(len(told), 715)


class ComesBy(unittest.TestCase):
    def test_few_hands_gone_through(self):
        for wishes in few_wishes(6):
            hands = len(wishes)
            for t in range(hands):
                there = led_lots(t, wishes)
                for lot in lots(hands, t):
                    for hand in range(hands):
                        if hand in lot or wishes[hand] is None:
                            continue
                        whole = tuple(sorted(lot + (hand,)))
                        wanted = (whole, there.index(whole) if whole in there else None)
                        self.assertTrue(same_kind(comes_by(wishes, hand, lot), wanted))
                        self.assertEqual(comes_by(lot=lot, hand=hand, wishes=wishes), wanted)

    def test_the_cry_has_the_piece(self):
        for wishes in few_wishes(5):
            for t in range(len(wishes)):
                for lot in lots(len(wishes), t):
                    for hand in range(len(wishes)):
                        if hand not in lot and wishes[hand] is not None:
                            whole, number = comes_by(wishes, hand, lot)
                            there = [(file, small) for way, file, small in terms(wishes, whole)]
                            self.assertIn((wishes[hand], lot), there)

    def test_sixty_hands(self):
        source = drawn("comes_by")
        for wishes in sixty_wishes():
            for t in range(60):
                hand = source.choice([hand for hand in range(60) if wishes[hand] is not None])
                others = [other for other in range(60) if other != hand]
                lot = tuple(sorted(source.sample(others, t)))
                whole, number = comes_by(wishes, hand, lot)
                self.assertEqual(whole, tuple(sorted(lot + (hand,))))
                if led_by(wishes) & set(whole):
                    self.assertEqual(made_at(t, wishes, number), whole)
                else:
                    self.assertIsNone(number)
                self.assertLess(line_steps(lambda: comes_by(wishes, hand, lot)), STEPS)


class Freed(unittest.TestCase):
    def check_hand(self, p, t, files, wishes, hand):
        hands = len(wishes)
        had = {number: on_shelf(hands, t, hand, file) for number, file in files.items()}
        had[123] = (None,)
        had[124] = ()
        before = repr((had, wishes))
        every = list(itertools.combinations(range(hands), t))
        for number, lot in enumerate(every):
            if hand not in lot:
                whole = tuple(sorted(lot + (hand,)))
                cried = cry_by_words(p, files, wishes, whole)
                wanted = files[wishes[hand]][number]
                self.assertTrue(same_kind(freed(p, wishes, hand, had, whole, cried), wanted))
                named = freed(number=cried, lot=whole, files=had, hand=hand, wishes=wishes, p=p)
                self.assertEqual(named, wanted)
        self.assertEqual(repr((had, wishes)), before)

    def test_each_cry_each_hand(self):
        for p, t, files, wishes in cases():
            for hand, wish in enumerate(wishes):
                if wish is not None:
                    self.check_hand(p, t, files, wishes, hand)

    def test_sixty_hands(self):
        source = drawn("freed")
        p = 999999929
        for wishes in sixty_wishes():
            hand = source.choice([hand for hand in range(60) if wishes[hand] is not None])
            for t in (0, 1, 59):
                files = {wish: drawn_file(source, p, choose(60, t)) for wish in set(wishes) - {None}}
                self.check_hand(p, t, files, wishes, hand)

    def test_of_a_greater_lot(self):
        source = drawn("greater")
        p = 101
        wishes = tuple(source.choice((0, 1, 2, None)) for _ in range(59)) + (2,)
        files = files_for(source, p, wishes, 1770)
        had = {number: on_shelf(60, 58, 59, file) for number, file in files.items()}
        for number in range(0, 60, 7):
            whole = lot_at(60, 59, number)
            if 59 in whole:
                told = freed(p, wishes, 59, had, whole, cry_by_words(p, files, wishes, whole))
                every = list(itertools.combinations(range(60), 58))
                self.assertEqual(told, files[2][every.index(whole[:-1])])


if __name__ == "__main__":
    unittest.main()
