import unittest

from lackcry.solving import inverse, reduced
from tests.helpers import PRIMES, drawn, rank


class Inverse(unittest.TestCase):
    def test_all_of_small_primes(self):
        for p in (2, 3, 5, 7, 101):
            for number in range(1, p):
                told = inverse(p, number)
                self.assertTrue(0 < told < p)
                self.assertEqual(number * told % p, 1)

    def test_of_great_primes(self):
        source = drawn("inverse")
        for p in PRIMES[-2:]:
            for number in [1, 2, p - 1, p - 2, p // 2] + [source.randrange(1, p) for _ in range(200)]:
                self.assertEqual(inverse(p, number), pow(number, -1, p))
                self.assertEqual(inverse(p, number - p), pow(number, -1, p))


class Reduced(unittest.TestCase):
    def test_drawn_rows(self):
        source = drawn("reduced")
        for _ in range(300):
            p = source.choice(PRIMES)
            wide, many, more = source.randrange(6), source.randrange(6), source.randrange(3)
            rows = [
                [source.choice((0, 0, 1, -1, source.randrange(p))) for _ in range(wide + more)] for _ in range(many)
            ]
            before = repr(rows)
            told = reduced(p, rows, wide)
            self.assertEqual(repr(rows), before)
            ahead = -1
            for row in told:
                place = next(at for at in range(wide) if row[at])
                self.assertGreater(place, ahead)
                self.assertEqual([other[place] for other in told], [int(other is row) for other in told])
                self.assertTrue(all(0 <= number < p for number in row))
                ahead = place
            self.assertEqual(len(told), rank(p, [row[:wide] for row in rows]))
            # The rows told are sums of those handed in, what goes along too.
            self.assertEqual(rank(p, rows + told), rank(p, rows))


if __name__ == "__main__":
    unittest.main()
