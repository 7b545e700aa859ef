import itertools
import math
import unittest

from lackcry.cries import all_cries, cries, cry
from lackcry.errors import TooMany
from lackcry.leftout import all_from, left_many, told_by
from lackcry.lots import choose, lots
from lackcry.making import is_made, made
from lackcry.outers import outer, part
from lackcry.signs import laid
from lackcry.wishes import leaders, wished, wishers
from tests.helpers import (
    PRIMES, cry_by_words, drawn, drawn_file, few_wishes, files_for, files_with, led_by, led_lots, rank, same_kind,
    sixty_wishes,
)


def unled_lots(wishes, size):
    """All lots of this size without a leader."""
    leads = led_by(wishes)
    return [lot for lot in itertools.combinations(range(len(wishes)), size) if not leads & set(lot)]


def every_v(wishes, lot):
    """All V of point 17 but the leaders', by going through all lots of these hands."""
    leads = led_by(wishes)
    there = sorted(set(lot) | leads)
    told = []
    for size in range(len(there) + 1):
        for hands in itertools.combinations(there, size):
            if sorted(wishes[hand] for hand in hands if wishes[hand] is not None) == list(wished(wishes)):
                if all(wishes[hand] is not None for hand in hands) and set(hands) != leads:
                    told.append(hands)
    return told


def signs_by_outer(wishes, lot):
    """told_by of a lot without a leader, by the outer sum that is 0, all of it worked out modulo a great prime."""
    p = 999999937
    ahead = (((), 1),)
    for number in wished(wishes):
        ahead = outer(p, ahead, tuple(((hand,), 1) for hand in wishers(wishes, number)))
    both = tuple(sorted(set(lot) | led_by(wishes)))
    ways = {}
    for v, number in ahead:
        if set(v) <= set(both):
            left = tuple(hand for hand in both if hand not in v)
            ways[left] = (1 if number == 1 else -1) * laid(v, left)[0]
    own = ways.pop(lot)
    return tuple((-own * ways[other], other) for other in sorted(ways))


class FewHandsGoneThrough(unittest.TestCase):
    def test_left_many(self):
        for wishes in few_wishes(6):
            for size in range(1, len(wishes) + 1):
                for lot in unled_lots(wishes, size):
                    wanted = len(every_v(wishes, lot))
                    self.assertTrue(same_kind(left_many(wishes, lot), wanted), (wishes, lot))
                    self.assertEqual(left_many(lot=lot, wishes=wishes), wanted)

    def test_told_by_one_for_each_v(self):
        for wishes in few_wishes(6):
            for size in range(1, len(wishes) + 1):
                for lot in unled_lots(wishes, size):
                    both = set(lot) | led_by(wishes)
                    told = told_by(wishes, lot)
                    wanted = sorted(tuple(sorted(both - set(v))) for v in every_v(wishes, lot))
                    self.assertEqual([other for way, other in told], wanted)
                    self.assertEqual(told_by(lot=lot, wishes=wishes), told)
                    for row in told:
                        self.assertIs(type(row), tuple)
                        self.assertIn(row[0], (1, -1))
                        self.assertTrue(is_made(wishes, row[1]))
                        self.assertEqual(len(row[1]), size)

    def test_signs_of_the_outer_sum(self):
        for wishes in few_wishes(6):
            for size in range(1, len(wishes) + 1):
                for lot in unled_lots(wishes, size):
                    self.assertTrue(same_kind(told_by(wishes, lot), signs_by_outer(wishes, lot)), (wishes, lot))

    def test_with_a_leader_itself(self):
        for wishes in few_wishes(6):
            for t in range(len(wishes)):
                for lot in led_lots(t, wishes):
                    self.assertTrue(same_kind(told_by(wishes, lot), ((1, lot),)))

    def test_sum_is_the_cry_for_drawn_files(self):
        source = drawn("sums")
        for wishes in few_wishes(6):
            for t in range(len(wishes)):
                for p in (2, 3, source.choice(PRIMES)):
                    files = files_for(source, p, wishes, math.comb(len(wishes), t))
                    for lot in lots(len(wishes), t + 1):
                        told = sum(way * cry_by_words(p, files, wishes, other) for way, other in told_by(wishes, lot))
                        self.assertEqual(told % p, cry_by_words(p, files, wishes, lot))

    def test_the_whole_outer_sum_is_nought(self):
        source = drawn("nought")
        for wishes in few_wishes(6):
            for t in range(len(wishes) + 1):
                p = source.choice(PRIMES)
                total = (((), 1),)
                for number in wished(wishes):
                    total = outer(p, total, tuple(((hand,), 1) for hand in wishers(wishes, number)))
                files = files_for(source, p, wishes, math.comb(len(wishes), t))
                if wished(wishes):
                    self.assertEqual(outer(p, total, all_cries(p, t, files, wishes)), ())

    def test_no_other_sum_is_it(self):
        # The made cries, as rows of how many times each piece is in them, hang on none ahead.
        for wishes in few_wishes(5):
            for t in range(len(wishes)):
                there = led_lots(t, wishes)
                every = list(itertools.combinations(range(len(wishes)), t))
                columns = [(number, lot) for number in wished(wishes) for lot in every]
                for p in (2, 3, 101):
                    rows = []
                    for lot in there:
                        row = [0] * len(columns)
                        for place, hand in enumerate(lot):
                            if wishes[hand] is not None:
                                at = columns.index((wishes[hand], lot[:place] + lot[place + 1:]))
                                row[at] = (-1) ** place
                        rows.append(row)
                    self.assertEqual(rank(p, rows), made(t, wishes))

    def test_nobody_wishes(self):
        for hands in (1, 3, 60):
            for size in range(1, min(hands, 4) + 1):
                self.assertTrue(same_kind(left_many((None,) * hands, tuple(range(size))), 0))
                self.assertTrue(same_kind(told_by((None,) * hands, tuple(range(size))), ()))

    def test_lot_that_wishes_nothing(self):
        self.assertTrue(same_kind(left_many((4, None, None, 4), (1, 2)), 0))
        self.assertTrue(same_kind(told_by((4, None, None, 4), (1, 2)), ()))

    def test_told_ones(self):
        self.assertTrue(same_kind(told_by((4, 4), (1,)), ((1, (0,)),)))
        self.assertTrue(same_kind(told_by((4, 4, 4), (1, 2)), ((-1, (0, 1)), (1, (0, 2)))))
        self.assertTrue(same_kind(told_by((4, 5, 5), (2,)), ((1, (1,)),)))
        self.assertTrue(same_kind(left_many((4, 5, 4, 5), (2, 3)), 3))


class SixtyHands(unittest.TestCase):
    def check(self, wishes, lot):
        source = drawn(wishes, lot)
        told = told_by(wishes, lot)
        self.assertEqual(len(told), left_many(wishes, lot))
        self.assertEqual([other for way, other in told], sorted({other for way, other in told}))
        leads = led_by(wishes)
        for way, other in told:
            self.assertTrue(leads & set(other))
            self.assertEqual(len(other), len(lot))
        # The cries themselves, of files that have as many pieces as there are lots with one hand fewer.
        if choose(len(wishes), len(lot) - 1) <= 2000:
            p = 999999937
            files = files_for(source, p, wishes, choose(len(wishes), len(lot) - 1))
            total = sum(way * cry(p, files, wishes, other) for way, other in told)
            self.assertEqual(total % p, cry(p, files, wishes, lot))

    def test_many_wishes(self):
        source = drawn("unled")
        for wishes in sixty_wishes():
            free = [hand for hand in range(60) if hand not in led_by(wishes)]
            for size in (1, 2, 3, 5, 8):
                if len(free) >= size:
                    self.check(wishes, tuple(sorted(source.sample(free, size))))

    def test_all_that_lead_nothing(self):
        self.check((7,) * 60, tuple(range(1, 60)))
        self.check(tuple(hand % 2 for hand in range(60)), tuple(range(2, 60)))
        self.assertEqual(left_many(tuple(hand % 2 for hand in range(60)), tuple(range(2, 60))), 30 * 30 - 1)

    def test_signs_of_the_outer_sum(self):
        for wishes, lot in (
            (tuple(hand % 3 for hand in range(60)), tuple(range(20, 31))),
            (tuple((hand * 7) % 4 for hand in range(60)), (5, 9, 30, 44, 59)),
            ((None,) * 50 + (3, 1, 2, 3, 1, 2, 1, 1, 3, None), (7, 9, 53, 54, 55, 57, 58)),
        ):
            self.assertTrue(same_kind(told_by(wishes, lot), signs_by_outer(wishes, lot)))

    def refused(self, wishes, lot, many):
        with self.assertRaises(TooMany) as caught:
            told_by(wishes, lot)
        self.assertTrue(same_kind(caught.exception.many, many))
        self.assertTrue(same_kind(left_many(wishes, lot), many))

    def test_refused_just_above_two_thousand(self):
        # 3 * 23 * 29 - 1 is 2000, 2 * 7 * 11 * 13 - 1 is 2001.
        wishes = (0, 1, 2) + (0,) * 2 + (1,) * 22 + (2,) * 28
        lot = tuple(range(3, 55))
        self.assertEqual(left_many(wishes, lot), 2000)
        self.assertEqual(len(told_by(wishes, lot)), 2000)
        wishes = (0, 1, 2, 3) + (0,) + (1,) * 6 + (2,) * 10 + (3,) * 12
        self.refused(wishes, tuple(range(4, 33)), 2001)
        self.refused(tuple(hand % 30 for hand in range(60)), tuple(range(30, 60)), 2 ** 30 - 1)

    def test_leader_s_lot_is_never_refused(self):
        wishes = tuple(hand % 30 for hand in range(60))
        self.assertEqual(told_by(wishes, tuple(range(60))), ((1, tuple(range(60))),))
        self.assertEqual(told_by(wishes, tuple(range(29, 60))), ((1, tuple(range(29, 60))),))


class AllFrom(unittest.TestCase):
    def check(self, p, t, files, wishes):
        heard = cries(p, t, files, wishes)
        every = itertools.combinations(range(len(wishes)), t + 1)
        wanted = tuple(cry_by_words(p, files, wishes, lot) for lot in every)
        self.assertTrue(same_kind(all_from(p, t, wishes, heard), wanted))
        self.assertEqual(all_from(cries=heard, wishes=wishes, t=t, p=p), wanted)

    def test_all_cries_gone_through(self):
        source = drawn("all_from")
        for wishes in few_wishes(7):
            for t in range(len(wishes) + 1):
                p = source.choice(PRIMES)
                self.check(p, t, files_for(source, p, wishes, math.comb(len(wishes), t)), wishes)

    def test_any_numbers_as_made_cries(self):
        source = drawn("any numbers")
        for wishes in few_wishes(6):
            for t in range(len(wishes) + 1):
                p = source.choice(PRIMES)
                numbers = drawn_file(source, p, made(t, wishes))
                files = files_with(p, t, wishes, numbers)
                self.assertEqual(cries(p, t, files, wishes), numbers)
                every = itertools.combinations(range(len(wishes)), t + 1)
                wanted = tuple(cry_by_words(p, files, wishes, lot) for lot in every)
                self.assertTrue(same_kind(all_from(p, t, wishes, numbers), wanted))

    def test_agrees_with_all_cries(self):
        source = drawn("agrees")
        for wishes in few_wishes(5):
            for t in range(len(wishes)):
                p = source.choice(PRIMES)
                files = files_for(source, p, wishes, math.comb(len(wishes), t))
                told = all_from(p, t, wishes, cries(p, t, files, wishes))
                whole = all_cries(p, t, files, wishes)
                self.assertEqual(told, tuple(part(whole, lot) for lot in lots(len(wishes), t + 1)))

    def test_none_at_all(self):
        for hands in (1, 6, 60):
            self.assertTrue(same_kind(all_from(7, hands, (3,) * hands, ()), ()))
            self.assertTrue(same_kind(all_from(7, 0, (None,) * hands, ()), (0,) * hands))

    def test_sixty_hands(self):
        source = drawn("sixty all_from")
        p = 999999937
        for wishes in sixty_wishes():
            for t in (0, 59):
                self.check(p, t, files_for(source, p, wishes, choose(60, t)), wishes)
        wishes = tuple(hand % 7 for hand in range(60))
        self.check(p, 1, files_for(source, p, wishes, 60), wishes)

    def test_never_refused(self):
        # One lot of 36 hands leads nothing; it needs 13 * 13 * 13 - 1 made ones, more than told_by tells.
        wishes = tuple(hand % 3 for hand in range(39))
        lot = tuple(range(3, 39))
        self.assertEqual(left_many(wishes, lot), 2196)
        many = made(35, wishes)
        told = all_from(2, 35, wishes, (1,) * many)
        self.assertEqual(told, (1,) * many + (2196 % 2,))


class Throughout(unittest.TestCase):
    def test_nothing_handed_in_is_changed(self):
        wishes, numbers, lot = (1, 0, 1, 0), (4, 5, 6, 0, 1), (2, 3)
        before = repr((wishes, numbers, lot))
        for told in (told_by(wishes, lot), all_from(7, 1, wishes, numbers)):
            self.assertIsInstance(told, tuple)
        left_many(wishes, lot)
        self.assertEqual(repr((wishes, numbers, lot)), before)
        self.assertEqual(told_by(wishes, lot), told_by(wishes, lot))
        self.assertEqual(leaders(wishes), (0, 1))


if __name__ == "__main__":
    unittest.main()
