import itertools
import math
import unittest

from lackcry.files import is_file, is_prime, piece, spread
from lackcry.lots import choose, lots, number_of
from lackcry.outers import is_outer, part
from tests.helpers import ANYTHING, NO_NUMBERS, PRIMES, drawn, drawn_file, nested, same_kind


def primes_below(bound):
    """By striking out."""
    left = [True] * bound
    left[:2] = [False, False]
    for by in range(2, bound):
        if left[by]:
            for out in range(by * by, bound, by):
                left[out] = False
    return [n for n in range(bound) if left[n]]


# The only primes of the last 150 numbers below 10 ** 9; the test of them also divides by all small primes.
GREATEST = (999999883, 999999893, 999999929, 999999937)


class IsPrime(unittest.TestCase):
    def test_small_numbers_gone_through(self):
        there = set(primes_below(20000))
        for n in range(20000):
            self.assertIs(is_prime(n), n in there, n)
        self.assertIs(is_prime(n=7), True)

    def test_none_below_two(self):
        for n in (1, 0, -1, -2, -3, -7, -(10 ** 9), -999999937):
            self.assertIs(is_prime(n), False)

    def test_squares_of_primes(self):
        for prime in primes_below(31623):
            if prime < 300 or prime > 31000:
                self.assertIs(is_prime(prime * prime), False, prime)
                self.assertIs(is_prime(prime), True, prime)

    def test_products_of_two_great_primes(self):
        great = [prime for prime in primes_below(31623) if prime > 31500]
        for one, other in itertools.combinations(great, 2):
            self.assertIs(is_prime(one * other), False)
        self.assertIs(is_prime(2 * 499999993), False)
        self.assertIs(is_prime(3 * 333333329), False)

    def test_the_greatest_below_the_bound(self):
        small = primes_below(31623)
        for n in range(10 ** 9 - 150, 10 ** 9):
            wanted = all(n % by for by in small)
            self.assertIs(is_prime(n), wanted, n)
            self.assertEqual(wanted, n in GREATEST)

    def test_seeming_primes(self):
        # Numbers that pass Fermat's test in many bases.
        for n in (341, 561, 1105, 1729, 2047, 3215031, 825265, 321197185, 294409, 56052361, 118901521, 172947529):
            self.assertIs(is_prime(n), all(n % by for by in range(2, math.isqrt(n) + 1)), n)


class IsFile(unittest.TestCase):
    def check(self, wanted, p, hands, t, thing):
        before = repr(thing)
        self.assertIs(is_file(p, hands, t, thing), wanted, (p, hands, t, before[:80]))
        self.assertIs(is_file(thing=thing, t=t, hands=hands, p=p), wanted)
        self.assertEqual(repr(thing), before)

    def test_files_of_every_size(self):
        source = drawn("is_file")
        for p in PRIMES:
            for hands in (1, 2, 3, 6, 11):
                for t in range(hands + 1):
                    file = drawn_file(source, p, math.comb(hands, t))
                    self.check(True, p, hands, t, file)
                    self.check(False, p, hands, t, file[1:])
                    self.check(False, p, hands, t, file + (0,))
                    self.check(False, p, hands, t, list(file))
                    self.check(False, p, hands, t, (file,))
                    self.check(False, p, hands, t, file[:-1] + (p,))
                    self.check(False, p, hands, t, (-1,) + file[1:])
                    self.check(True, p, hands, t, (p - 1,) * len(file))
                    self.check(True, p, hands, t, (0,) * len(file))

    def test_sixty_hands(self):
        for t, many in ((0, 1), (1, 60), (2, 1770), (58, 1770), (59, 60), (60, 1)):
            self.check(True, 2, 60, t, (0, 1) * (many // 2) + (1,) * (many % 2))
            self.check(False, 2, 60, t, (0,) * (many + 1))
            self.check(False, 2, 60, t, (0,) * (many - 1) + (2,))
        self.check(False, 2, 60, 30, (0,) * 2000)

    def test_numbers_that_cannot_stand_there(self):
        for number in NO_NUMBERS + (7, 8, 10 ** 30):
            self.check(False, 7, 3, 0, (number,))
            self.check(False, 7, 3, 1, (number, 0, 0))
            self.check(False, 7, 3, 1, (0, 0, number))

    def test_of_anything(self):
        for thing in ANYTHING:
            self.check(False, 7, 4, 2, thing)
            self.check(thing == (0,) and repr(thing) == "(0,)", 7, 4, 0, thing)
        for thing in (nested(0, 30, lambda t: (t,)), nested(0, 30, lambda t: [t]), {0: 1}, "0", 0):
            self.check(False, 7, 1, 1, thing)


class Piece(unittest.TestCase):
    def test_by_the_lot_s_number(self):
        source = drawn("piece")
        for hands in range(1, 8):
            for t in range(hands + 1):
                file = drawn_file(source, 999999937, math.comb(hands, t))
                for number, lot in enumerate(itertools.combinations(range(hands), t)):
                    self.assertTrue(same_kind(piece(hands, file, lot), file[number]))
                    self.assertEqual(piece(lot=lot, file=file, hands=hands), file[number])

    def test_sixty_hands(self):
        for t in (0, 1, 2, 58, 59, 60):
            file = tuple(range(choose(60, t)))
            told = [piece(60, file, lot) for lot in lots(60, t)]
            self.assertEqual(told, list(file))


class Spread(unittest.TestCase):
    def test_against_the_pieces_gone_through(self):
        source = drawn("spread")
        for p in PRIMES:
            for hands in range(1, 7):
                for t in range(hands + 1):
                    file = drawn_file(source, p, math.comb(hands, t))
                    told = spread(p, hands, t, file)
                    self.assertEqual(spread(file=file, t=t, hands=hands, p=p), told)
                    self.assertTrue(is_outer(p, hands, t, told))
                    wanted = tuple((lot, piece(hands, file, lot)) for lot in lots(hands, t) if piece(hands, file, lot))
                    self.assertTrue(same_kind(told, wanted))
                    for lot in lots(hands, t):
                        self.assertEqual(part(told, lot), file[number_of(hands, lot)])

    def test_noughts_alone_are_nothing(self):
        for hands, t in ((1, 0), (1, 1), (6, 3), (60, 2)):
            self.assertTrue(same_kind(spread(7, hands, t, (0,) * choose(hands, t)), ()))
        self.assertTrue(same_kind(spread(7, 4, 0, (3,)), (((), 3),)))
        self.assertTrue(same_kind(spread(7, 2, 2, (3,)), (((0, 1), 3),)))

    def test_somewhat_beyond_two_thousand_nothing_is_refused(self):
        file = (1,) * 2002
        told = spread(7, 14, 5, file)
        self.assertEqual(len(told), 2002)
        self.assertTrue(is_outer(7, 14, 5, told))

    def test_nothing_handed_in_is_changed(self):
        thing = [1, [2], {"a": (3,)}]
        is_file(7, 3, 1, thing)
        self.assertEqual(thing, [1, [2], {"a": (3,)}])
        file = (1, 0, 2)
        spread(7, 3, 1, file)
        piece(3, file, (1,))
        self.assertEqual(file, (1, 0, 2))


if __name__ == "__main__":
    unittest.main()
