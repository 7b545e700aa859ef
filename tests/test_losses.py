import itertools
import unittest

from lackcry.errors import TooFew
from lackcry.losses import restored, spare, spare_weights, with_spares
from tests.helpers import PRIMES, by_differences, drawn, drawn_file, same_kind


def by_powers(p, numbers, x):
    """The value of a row of numbers, as point 27 says it."""
    return sum(number * x ** place for place, number in enumerate(numbers)) % p


def lost(cries, places):
    """The cries with None in these places."""
    return tuple(None if place in places else number for place, number in enumerate(cries))


class Spare(unittest.TestCase):
    def test_the_row_goes_on(self):
        source = drawn("goes on")
        for p in (7, 13, 101, 999999937):
            for m in range(1, 7):
                numbers = drawn_file(source, p, m)
                cries = tuple(by_powers(p, numbers, x) for x in range(m))
                for j in range(min(p - m, 8)):
                    told = spare(p, cries, j)
                    self.assertTrue(same_kind(told, by_powers(p, numbers, m + j)), (p, cries, j))
                    self.assertEqual(spare(j=j, cries=cries, p=p), told)

    def test_differences(self):
        source = drawn("differences")
        for p in PRIMES:
            for m in range(1, min(p, 12)):
                cries = drawn_file(source, p, m)
                many = min(p - m, 20)
                wanted = by_differences(p, cries, many)
                self.assertTrue(same_kind(tuple(spare(p, cries, j) for j in range(many)), wanted[m:]))

    def test_far_away(self):
        source = drawn("far away")
        for p in (999999929, 999999937):
            for m in (1, 2, 5):
                numbers = drawn_file(source, p, m)
                cries = tuple(by_powers(p, numbers, x) for x in range(m))
                for j in (10 ** 6, p // 2, p - m - 1):
                    self.assertEqual(spare(p, cries, j), by_powers(p, numbers, m + j))

    def test_one_cry_is_its_own_spare(self):
        for p in PRIMES:
            for number in {0, 1, p - 1}:
                self.assertEqual([spare(p, (number,), j) for j in range(min(p - 1, 5))], [number] * min(p - 1, 5))

    def test_of_no_cries_nought(self):
        for p in PRIMES:
            for j in range(min(p, 4)):
                self.assertTrue(same_kind(spare(p, (), j), 0))

    def test_weights_of_a_spare(self):
        source = drawn("weights of a spare")
        for p in (13, 101, 999999937):
            for m in range(8):
                for j in range(5):
                    cries = drawn_file(source, p, m)
                    told = spare_weights(p, m, j)
                    self.assertEqual(len(told), m)
                    self.assertEqual(sum(a * b for a, b in zip(told, cries)) % p, spare(p, cries, j))


class WithSpares(unittest.TestCase):
    def test_as_many_as_p_lets(self):
        source = drawn("as many")
        for p in (2, 3, 5, 7, 13, 101):
            for m in sorted({0, 1, 2, p // 2, p - 1, p}):
                cries = drawn_file(source, p, m)
                for many in sorted({0, min(1, p - m), (p - m) // 2, p - m}):
                    before = repr(cries)
                    told = with_spares(p, cries, many)
                    self.assertTrue(same_kind(told, by_differences(p, cries, many)), (p, cries, many))
                    self.assertEqual(with_spares(many=many, cries=cries, p=p), told)
                    self.assertEqual(repr(cries), before)

    def test_great_primes(self):
        source = drawn("great")
        for p in (999999929, 999999937):
            for m in (0, 1, 2, 9, 30):
                cries = drawn_file(source, p, m)
                for many in (0, 1, 40):
                    self.assertTrue(same_kind(with_spares(p, cries, many), by_differences(p, cries, many)))

    def test_long_rows(self):
        source = drawn("long")
        for p, m, many in ((251, 100, 151), (999999937, 150, 100), (2003, 1000, 60), (999999937, 2000, 3)):
            cries = drawn_file(source, p, m)
            told = with_spares(p, cries, many)
            self.assertEqual(told, by_differences(p, cries, many))
            for j in {0, many - 1}:
                self.assertEqual(spare(p, cries, j), told[m + j])


class Restored(unittest.TestCase):
    def check(self, p, m, cries, heard):
        before = repr(heard)
        told = restored(p, m, heard)
        self.assertTrue(same_kind(told, cries), (p, m, heard, told))
        self.assertEqual(restored(heard=heard, m=m, p=p), told)
        self.assertEqual(repr(heard), before)

    def test_whichever_are_lost(self):
        source = drawn("whichever")
        for p in (2, 3, 5, 7, 101):
            for m in range(1, min(p, 5) + 1):
                for many in range(min(p - m, 4) + 1):
                    cries = drawn_file(source, p, m)
                    whole = by_differences(p, cries, many)
                    for size in range(many + 1):
                        for places in itertools.combinations(range(m + many), size):
                            self.check(p, m, cries, lost(whole, places))

    def test_too_few(self):
        source = drawn("too few")
        for p in (3, 7, 101):
            for m in range(1, min(p, 4) + 1):
                for many in range(min(p - m, 3) + 1):
                    whole = by_differences(p, drawn_file(source, p, m), many)
                    for size in range(many + 1, m + many + 1):
                        for places in itertools.combinations(range(m + many), size):
                            with self.assertRaises(TooFew) as caught:
                                restored(p, m, lost(whole, places))
                            self.assertTrue(same_kind(caught.exception.many, m + many - size))

    def test_noughts_that_came_are_no_losses(self):
        self.check(7, 2, (0, 0), (0, None, 0))
        self.check(7, 3, (0, 0, 0), (None, None, 0, 0, 0))
        with self.assertRaises(TooFew) as caught:
            restored(7, 3, (0, None, 0, None))
        self.assertEqual(caught.exception.many, 2)

    def test_long_rows_at_the_edges_of_p(self):
        source = drawn("long restored")
        for p, m, many in ((101, 60, 41), (251, 120, 131), (999999937, 100, 50), (999999929, 130, 30)):
            cries = drawn_file(source, p, m)
            whole = by_differences(p, cries, many)
            for size in (0, 1, many // 2, many):
                self.check(p, m, cries, lost(whole, source.sample(range(m + many), size)))
                self.check(p, m, cries, lost(whole, range(size)))
                self.check(p, m, cries, lost(whole, range(m + many - size, m + many)))
            places = source.sample(range(m + many), many + 1)
            with self.assertRaises(TooFew) as caught:
                restored(p, m, lost(whole, places))
            self.assertEqual(caught.exception.many, m - 1)

    def test_two_thousand_cries(self):
        source = drawn("two thousand")
        p = 999999937
        cries = drawn_file(source, p, 2000)
        whole = with_spares(p, cries, 5)
        self.check(p, 2000, cries, lost(whole, source.sample(range(2005), 5)))
        with self.assertRaises(TooFew) as caught:
            restored(p, 2000, lost(whole, source.sample(range(2005), 6)))
        self.assertEqual(caught.exception.many, 1999)

    def test_of_no_cries(self):
        for heard in ((), (0, 0), (None, 0), (None,)):
            self.check(5, 0, (), heard)


if __name__ == "__main__":
    unittest.main()
