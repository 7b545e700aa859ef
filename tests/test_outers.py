import itertools
import unittest

from lackcry.lots import every_lot, lots
from lackcry.outers import is_outer, outer, part, plus, times
from lackcry.signs import laid
from tests.helpers import ANYTHING, NO_NUMBERS, PRIMES, drawn, drawn_lot, nested, parity, same_kind


def drawn_outer(source, p, hands, grade, most=6):
    """An outer sum of this grade, perhaps ()."""
    told = {drawn_lot(source, hands, grade): source.randrange(1, p) for _ in range(source.randrange(most))}
    return tuple(sorted(told.items()))


def by_words(p, one, other):
    """outer, part by part, signs by exchanges of neighbours."""
    told = {}
    for ahead, number in one:
        for behind, worth in other:
            if not set(ahead) & set(behind):
                lot = tuple(sorted(ahead + behind))
                told[lot] = told.get(lot, 0) + parity(ahead + behind) * number * worth
    return tuple(sorted((lot, number % p) for lot, number in told.items() if number % p))


def determinant(rows):
    """By all orders of the columns."""
    told = 0
    for order in itertools.permutations(range(len(rows))):
        product = parity(order)
        for row, column in zip(rows, order):
            product *= row[column]
        told += product
    return told


def of_grade_one(p, row):
    """A row of numbers as an outer sum of grade 1."""
    return tuple(((hand,), number % p) for hand, number in enumerate(row) if number % p)


class IsOuter(unittest.TestCase):
    def check(self, wanted, p, hands, grade, thing):
        before = repr(thing)
        self.assertIs(is_outer(p, hands, grade, thing), wanted, (p, hands, grade, thing))
        self.assertIs(is_outer(thing=thing, grade=grade, hands=hands, p=p), wanted)
        self.assertEqual(repr(thing), before)

    def test_sums_of_every_grade(self):
        source = drawn("is_outer")
        for p in PRIMES:
            for hands in (1, 2, 5, 60):
                for grade in range(hands + 1):
                    told = drawn_outer(source, p, hands, grade)
                    self.check(True, p, hands, grade, told)
                    if told:
                        self.check(False, p, hands, grade + 1, told)
                        self.check(False, p, hands, grade - 1, told)

    def test_the_empty_sum_is_of_every_grade(self):
        for p in PRIMES:
            for hands in (1, 6, 60):
                for grade in range(hands + 2):
                    self.check(True, p, hands, grade, ())
                    self.check(False, p, hands, grade, [])

    def test_all_small_tuples_gone_through(self):
        rows = [(lot, number) for lot in ((), (0,), (1,), (2,), (0, 1), (1, 0)) for number in range(4)]
        for long in range(3):
            for thing in itertools.product(rows, repeat=long):
                right = all(len(lot) == 1 and lot < (2,) and 1 <= number <= 2 for lot, number in thing)
                lots_here = [lot for lot, number in thing]
                right = right and lots_here == sorted(set(lots_here))
                self.check(right, 3, 2, 1, thing)

    def test_part_twice_or_exchanged(self):
        good = (((0, 1), 4), ((0, 2), 1), ((1, 2), 3))
        self.check(True, 5, 3, 2, good)
        for order in itertools.permutations(good):
            self.check(order == good, 5, 3, 2, order)
        self.check(False, 5, 3, 2, good[:1] + good)
        self.check(False, 5, 3, 2, good + good[2:])
        self.check(False, 5, 3, 2, (((0, 1), 3), ((0, 1), 4)))
        self.check(False, 5, 3, 2, (((0, 1), 4), ((0, 1), 3)))

    def test_numbers_that_cannot_stand_there(self):
        for p in PRIMES:
            self.check(True, p, 3, 1, (((0,), 1), ((2,), p - 1)))
            for number in NO_NUMBERS + (0, p, p + 1, 2 * p, 1 - p, 10 ** 30):
                self.check(False, p, 3, 1, (((0,), number),))
                self.check(False, p, 3, 1, (((0,), 1), ((2,), number)))
                self.check(False, p, 3, 1, (((0,), number), ((2,), 1)))

    def test_lots_that_cannot_stand_there(self):
        self.check(True, 7, 4, 2, (((0, 3), 6),))
        for lot in ((0,), (0, 1, 2), (3, 0), (1, 1), [0, 3], (0, 4), (-1, 0), (0, True), (False, 3), (0, None),
                    "03", {0: 3}, None, 3, True, (), ((0,), (3,)), ((0, 3),)):
            self.check(False, 7, 4, 2, ((lot, 6),))
            self.check(False, 7, 4, 2, (((0, 1), 1), (lot, 6)))

    def test_rows_that_are_no_pairs(self):
        for row in (((0, 3),), ((0, 3), 6, 6), [(0, 3), 6], (6, (0, 3)), {(0, 3): 6}, (), None, 6, "06", True):
            self.check(False, 7, 4, 2, (row,))
            self.check(False, 7, 4, 2, (((0, 1), 1), row))

    def test_the_sum_no_tuple(self):
        self.check(False, 7, 4, 2, [((0, 3), 6)])
        self.check(False, 7, 4, 2, {(0, 3): 6})
        self.check(False, 7, 4, 2, ((0, 3), 6))
        self.check(False, 7, 4, 2, {((0, 3), 6): 1})

    def test_of_anything(self):
        for thing in ANYTHING:
            for grade in (0, 1, 2):
                self.check(thing == () and isinstance(thing, tuple), 7, 4, grade, thing)
        for grade in (0, 1, 2):
            self.check(False, 7, 4, grade, (nested((), 29, lambda thing: (thing,)),))
            self.check(False, 7, 4, grade, ((nested((), 28, lambda thing: (thing,)), 1),))
            self.check(False, 7, 4, grade, ((nested((), 28, lambda thing: (thing, 1)), 1),))

    def test_grade_nought(self):
        self.check(True, 7, 4, 0, (((), 6),))
        self.check(False, 7, 4, 0, (((), 7),))
        self.check(False, 7, 4, 0, (((), 1), ((), 2)))
        self.check(False, 7, 4, 0, (((0,), 1),))


class Part(unittest.TestCase):
    def test_each_lot(self):
        source = drawn("part")
        for p in PRIMES:
            for grade in range(5):
                told = drawn_outer(source, p, 4, grade)
                numbers = dict(told)
                for lot in lots(4, grade):
                    self.assertTrue(same_kind(part(told, lot), numbers.get(lot, 0)))
                    self.assertEqual(part(lot=lot, sum_=told), numbers.get(lot, 0))

    def test_of_the_empty_sum(self):
        self.assertTrue(same_kind(part((), (0, 1)), 0))
        self.assertTrue(same_kind(part((), ()), 0))
        self.assertTrue(same_kind(part((((), 4),), ()), 4))


class PlusAndTimes(unittest.TestCase):
    def test_plus_part_by_part(self):
        source = drawn("plus")
        for p in PRIMES:
            for grade in (0, 1, 2, 3, 5):
                for _ in range(10):
                    one, other = drawn_outer(source, p, 5, grade), drawn_outer(source, p, 5, grade)
                    told = plus(p, one, other)
                    self.assertTrue(is_outer(p, 5, grade, told))
                    self.assertEqual(plus(other=other, p=p, one=one), told)
                    self.assertEqual(plus(p, other, one), told)
                    for lot in lots(5, grade):
                        wanted = (part(one, lot) + part(other, lot)) % p
                        self.assertTrue(same_kind(part(told, lot), wanted))
                    self.assertEqual(plus(p, one, ()), one)
                    self.assertEqual(plus(p, (), one), one)

    def test_times_far_below_and_above(self):
        source = drawn("times")
        for p in PRIMES:
            many_each = (0, 1, 2, -1, p, -p, p - 1, p + 1, 10 ** 40, -(10 ** 40), 3 * p - 1, -5 * p + 2)
            for grade in (0, 1, 2, 4):
                for many in many_each:
                    one = drawn_outer(source, p, 5, grade)
                    told = times(p, one, many)
                    self.assertTrue(is_outer(p, 5, grade, told))
                    self.assertEqual(times(many=many, sum_=one, p=p), told)
                    for lot in lots(5, grade):
                        wanted = part(one, lot) * many % p
                        self.assertTrue(same_kind(part(told, lot), wanted))

    def test_with_itself_p_less_one_times_is_nothing(self):
        source = drawn("nothing")
        for p in PRIMES:
            for grade in range(6):
                one = drawn_outer(source, p, 5, grade)
                self.assertTrue(same_kind(plus(p, one, times(p, one, p - 1)), ()))
                self.assertTrue(same_kind(plus(p, times(p, one, -1), one), ()))
                self.assertTrue(same_kind(times(p, one, p), ()))
                self.assertTrue(same_kind(times(p, one, 0), ()))
                self.assertEqual(times(p, one, 1), one)

    def test_times_is_plus_again_and_again(self):
        source = drawn("again")
        for p in PRIMES:
            one = drawn_outer(source, p, 5, 2)
            told = ()
            for many in range(12):
                self.assertEqual(times(p, one, many), told)
                told = plus(p, told, one)


class Outer(unittest.TestCase):
    def test_each_two_lots_by_exchanges_of_neighbours(self):
        every = [lot for grade in range(6) for lot in lots(5, grade)]
        for one in every:
            for other in every:
                told = outer(7, ((one, 3),), ((other, 4),))
                if set(one) & set(other):
                    self.assertTrue(same_kind(told, ()))
                else:
                    wanted = parity(one + other) * 12 % 7
                    self.assertTrue(same_kind(told, ((tuple(sorted(one + other)), wanted),)))

    def test_drawn_sums_by_the_words(self):
        source = drawn("outer")
        for p in PRIMES:
            for _ in range(60):
                here, there = source.randrange(6), source.randrange(6)
                one, other = drawn_outer(source, p, 6, here, 12), drawn_outer(source, p, 6, there, 12)
                told = outer(p, one, other)
                self.assertTrue(same_kind(told, by_words(p, one, other)))
                self.assertTrue(is_outer(p, 6, here + there, told))
                self.assertEqual(outer(other=other, one=one, p=p), told)

    def test_sixty_hands(self):
        source = drawn("sixty")
        for p in PRIMES:
            for here, there in ((0, 60), (1, 59), (30, 30), (20, 7), (1, 1), (2, 2), (45, 10)):
                one = drawn_outer(source, p, 60, here)
                other = tuple(
                    sorted({
                        tuple(hand for hand in range(60) if hand not in lot)[:there]: source.randrange(1, p)
                        for lot, number in one
                    }.items())
                )
                self.assertTrue(same_kind(outer(p, one, other), by_words(p, one, other)))

    def test_goes_together_in_rows(self):
        source = drawn("rows")
        for p in PRIMES:
            for _ in range(25):
                one, two, three = [drawn_outer(source, p, 6, source.randrange(3)) for _ in range(3)]
                self.assertEqual(outer(p, outer(p, one, two), three), outer(p, one, outer(p, two, three)))

    def test_over_plus_on_both_sides(self):
        source = drawn("sides")
        for p in PRIMES:
            for _ in range(25):
                grade = source.randrange(4)
                one = drawn_outer(source, p, 6, source.randrange(4))
                two, three = drawn_outer(source, p, 6, grade), drawn_outer(source, p, 6, grade)
                both = plus(p, two, three)
                self.assertEqual(outer(p, one, both), plus(p, outer(p, one, two), outer(p, one, three)))
                self.assertEqual(outer(p, both, one), plus(p, outer(p, two, one), outer(p, three, one)))
                self.assertEqual(outer(p, times(p, one, 5), two), times(p, outer(p, one, two), 5))

    def test_turned_about_by_the_product_of_grades(self):
        source = drawn("turned")
        for p in PRIMES:
            for here in range(5):
                for there in range(5):
                    one, other = drawn_outer(source, p, 6, here), drawn_outer(source, p, 6, there)
                    turn = -1 if here * there % 2 else 1
                    self.assertEqual(outer(p, other, one), times(p, outer(p, one, other), turn))

    def test_grade_one_with_itself_is_nothing(self):
        source = drawn("itself")
        for p in PRIMES:
            for hands in (1, 2, 6, 60):
                one = of_grade_one(p, [source.randrange(p) for _ in range(hands)])
                self.assertTrue(same_kind(outer(p, one, one), ()))
                self.assertTrue(same_kind(outer(p, one, times(p, one, 3)), ()))

    def test_even_grade_with_itself_may_be_something(self):
        one = (((0, 1), 1), ((2, 3), 1))
        self.assertEqual(outer(7, one, one), (((0, 1, 2, 3), 2),))
        self.assertEqual(outer(2, one, one), ())

    def test_empty_and_grade_nought(self):
        source = drawn("nought")
        for p in PRIMES:
            for grade in range(5):
                one = drawn_outer(source, p, 6, grade)
                self.assertEqual(outer(p, one, ()), ())
                self.assertEqual(outer(p, (), one), ())
                worth = source.randrange(1, p)
                self.assertEqual(outer(p, (((), worth),), one), times(p, one, worth))
                self.assertEqual(outer(p, one, (((), worth),)), times(p, one, worth))

    def test_rows_one_behind_the_other_are_determinants(self):
        source = drawn("determinants")
        for p in PRIMES:
            for size in range(1, 5):
                rows = [[source.randrange(p) for _ in range(5)] for _ in range(size)]
                told = (((), 1),)
                for row in rows:
                    told = outer(p, told, of_grade_one(p, row))
                for lot in lots(5, size):
                    square = [[row[hand] for hand in lot] for row in rows]
                    self.assertEqual(part(told, lot), determinant(square) % p)
                self.assertTrue(is_outer(p, 5, size, told))

    def test_sign_is_that_of_laid(self):
        for one in every_lot(6, 3):
            for other in every_lot(6, 2):
                way, lot = laid(one, other)
                self.assertEqual(outer(5, ((one, 1),), ((other, 1),)), ((lot, way % 5),) if way else ())


class Throughout(unittest.TestCase):
    def test_nothing_handed_in_is_changed(self):
        thing = (((0, 1), 3), [(0, 2), [4]], {"a": [1]})
        before = repr(thing)
        is_outer(5, 3, 2, thing)
        self.assertEqual(repr(thing), before)
        one, other = (((0,), 1), ((1,), 2)), (((1,), 3),)
        plus(5, one, other)
        times(5, one, 3)
        outer(5, one, other)
        part(one, (0,))
        self.assertEqual((one, other), ((((0,), 1), ((1,), 2)), (((1,), 3),)))

    def test_all_told_is_tuples_through_and_through(self):
        one = (((0,), 1), ((1,), 2))
        for told in (plus(5, one, one), times(5, one, 2), outer(5, one, (((2,), 1),))):
            self.assertIsInstance(told, tuple)
            for row in told:
                self.assertIs(type(row), tuple)
                self.assertIs(type(row[0]), tuple)
                self.assertIs(type(row[1]), int)


if __name__ == "__main__":
    unittest.main()
