import unittest

from lackcry.sums import is_sum, rises
from tests.helpers import ANYTHING


class IsSum(unittest.TestCase):
    def test_of_anything(self):
        for thing in ANYTHING:
            self.assertIs(is_sum(7, 3, 1, thing), thing == () and type(thing) is tuple)

    def test_rising_and_no_piece_twice(self):
        for thing, wanted in (
            ((), True),
            (((0, (1,), 6),), True),
            (((0, (1,), 6), (0, (2,), 1), (3, (0,), 2)), True),
            (((0, (2,), 1), (0, (1,), 6)), False),
            (((0, (1,), 1), (0, (1,), 2)), False),
            (((0, (1,), 0),), False),
            (((0, (1,), 7),), False),
            (((10 ** 6, (1,), 1),), False),
            (((0, (3,), 1),), False),
            (((0, (), 1),), False),
        ):
            self.assertIs(is_sum(7, 3, 1, thing), wanted, thing)

    def test_rises(self):
        self.assertIs(rises([]), True)
        self.assertIs(rises([1, 2, 9]), True)
        self.assertIs(rises([1, 1]), False)
        self.assertIs(rises([2, 1]), False)


if __name__ == "__main__":
    unittest.main()
