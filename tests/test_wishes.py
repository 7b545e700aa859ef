import itertools
import unittest

from lackcry.lots import is_lot
from lackcry.wishes import is_wishes, leaders, wished, wishers
from tests.helpers import ANYTHING, NO_NUMBERS, STEPS, drawn, drawn_wishes, line_steps, nested, same_kind

SOME = (0, 3, 7, 999999)


def every_wishes(hands, numbers):
    """All wishes of so many hands for these files, gone through."""
    return itertools.product(numbers + (None,), repeat=hands)


def many_wishes():
    """Wishes of one to sixty hands: none at all, all alike, all unlike, rising and falling, drawn."""
    source = drawn("wishes")
    for hands in list(range(1, 8)) + [30, 59, 60]:
        yield (None,) * hands
        yield (0,) * hands
        yield (999999,) * hands
        yield tuple(range(hands))
        yield tuple(range(hands, 0, -1))
        yield tuple(range(10 ** 6 - hands, 10 ** 6))
        yield (None,) * (hands - 1) + (5,)
        yield (5,) + (None,) * (hands - 1)
        for _ in range(20):
            yield drawn_wishes(source, hands, tuple(source.sample(range(10 ** 6), source.randrange(1, hands + 1))))


class IsWishes(unittest.TestCase):
    def check(self, wanted, hands, files, thing):
        before = repr(thing)
        self.assertIs(is_wishes(hands, files, thing), wanted, (hands, files, thing))
        self.assertIs(is_wishes(thing=thing, files=files, hands=hands), wanted)
        self.assertEqual(repr(thing), before)

    def test_few_hands_gone_through(self):
        for hands in range(1, 4):
            for files in ((), (0,), (1,), (0, 2), (0, 1, 2)):
                for long in range(hands + 2):
                    for thing in itertools.product((None, 0, 1, 2, 3, -1, True, False), repeat=long):
                        right = len(thing) == hands and all(
                            wish is None or (not isinstance(wish, bool) and wish in files) for wish in thing
                        )
                        self.check(right, hands, files, thing)

    def test_to_sixty_hands(self):
        for wishes in many_wishes():
            hands = len(wishes)
            files = wished(wishes)
            self.check(True, hands, files, wishes)
            self.check(True, hands, tuple(sorted(set(files + SOME))), wishes)
            self.check(False, hands, files, wishes + (None,))
            self.check(False, hands, files, wishes[1:])
            self.check(False, hands, files, list(wishes))
            self.check(False, hands, files, wishes[:-1] + (10 ** 6,))
            self.check(False, hands, files, wishes[:-1] + (-1,))
            if files:
                self.check(False, hands, files[1:], wishes)
                self.check(False, hands, (), wishes)

    def test_none_wished_needs_no_files(self):
        for hands in (1, 6, 60):
            self.check(True, hands, (), (None,) * hands)
            self.check(False, hands, (), (0,) * hands)
            self.check(False, hands, (), ())

    def test_truths_are_no_numbers(self):
        for truth in (True, False):
            self.check(False, 1, (0, 1), (truth,))
            self.check(False, 3, (0, 1), (0, 1, truth))
            self.check(False, 3, (0, 1), (truth, None, 0))

    def test_words_that_cannot_stand_there(self):
        for thing in NO_NUMBERS + (1, 8, 10 ** 30):
            right = thing is None
            self.check(right, 1, SOME, (thing,))
            self.check(right, 3, SOME, (0, 7, thing))
            self.check(right, 3, SOME, (thing, None, 3))

    def test_of_anything(self):
        for thing in ANYTHING:
            for hands in (1, 2, 3):
                right = isinstance(thing, tuple) and len(thing) == hands and all(
                    wish is None or (same_kind(wish, 0)) for wish in thing
                )
                self.check(right, hands, SOME, thing)
        self.check(False, 1, SOME, nested(None, 30, lambda thing: (thing,)))
        self.check(False, 2, SOME, "03")
        self.check(False, 1, SOME, {0: None})


class Wished(unittest.TestCase):
    def test_all_gone_through(self):
        for hands in range(1, 5):
            for wishes in every_wishes(hands, (0, 3, 7)):
                wanted = tuple(number for number in range(8) if number in [w for w in wishes if w is not None])
                self.assertTrue(same_kind(wished(wishes), wanted))
                self.assertEqual(wished(wishes=wishes), wanted)

    def test_to_sixty_hands(self):
        for wishes in many_wishes():
            told = wished(wishes)
            self.assertIsInstance(told, tuple)
            self.assertEqual(set(told), set(wishes) - {None})
            self.assertTrue(all(one < other for one, other in zip(told, told[1:])))

    def test_nobody_wishes(self):
        for hands in (1, 6, 60):
            self.assertTrue(same_kind(wished((None,) * hands), ()))


class Wishers(unittest.TestCase):
    def test_all_gone_through(self):
        for hands in range(1, 5):
            for wishes in every_wishes(hands, (0, 3, 7)):
                for number in range(9):
                    wanted = tuple(hand for hand in range(hands) if wishes[hand] == number)
                    self.assertTrue(same_kind(wishers(wishes, number), wanted))
                    self.assertEqual(wishers(number=number, wishes=wishes), wanted)

    def test_to_sixty_hands(self):
        for wishes in many_wishes():
            hands = len(wishes)
            together = []
            for number in wished(wishes):
                lot = wishers(wishes, number)
                self.assertTrue(lot)
                self.assertTrue(is_lot(hands, len(lot), lot))
                self.assertEqual({wishes[hand] for hand in lot}, {number})
                together += lot
            self.assertEqual(sorted(together), [hand for hand in range(hands) if wishes[hand] is not None])

    def test_nobody_wishes_it(self):
        for wishes in many_wishes():
            self.assertTrue(same_kind(wishers(wishes, 10 ** 6), ()))
        self.assertTrue(same_kind(wishers((None, 1, 1), 0), ()))


class Leaders(unittest.TestCase):
    def test_all_gone_through(self):
        for hands in range(1, 6):
            for wishes in every_wishes(hands, (0, 3, 7)):
                wanted = tuple(
                    hand for hand in range(hands)
                    if wishes[hand] is not None and wishes[hand] not in wishes[:hand]
                )
                self.assertTrue(same_kind(leaders(wishes), wanted))
                self.assertEqual(leaders(wishes=wishes), wanted)

    def test_to_sixty_hands(self):
        for wishes in many_wishes():
            told = leaders(wishes)
            self.assertTrue(is_lot(len(wishes), len(wished(wishes)), told))
            self.assertEqual(set(told), {wishers(wishes, number)[0] for number in wished(wishes)})

    def test_none_alike_unlike(self):
        for hands in (1, 6, 60):
            self.assertTrue(same_kind(leaders((None,) * hands), ()))
            self.assertTrue(same_kind(leaders((9,) * hands), (0,)))
            self.assertTrue(same_kind(leaders(tuple(range(hands, 0, -1))), tuple(range(hands))))
        self.assertTrue(same_kind(leaders((None, 0, 0, 5, None, 5)), (1, 3)))


class Throughout(unittest.TestCase):
    def test_nothing_handed_in_is_changed(self):
        thing = [0, [None], {"a": (1, [2])}]
        is_wishes(3, (0, 1), thing)
        self.assertEqual(thing, [0, [None], {"a": (1, [2])}])
        wishes = (3, None, 0, 3)
        for told in (wished(wishes), wishers(wishes, 3), leaders(wishes)):
            self.assertIsInstance(told, tuple)
        self.assertEqual(wishes, (3, None, 0, 3))

    def test_few_steps_for_sixty_hands(self):
        for wishes in many_wishes():
            if len(wishes) == 60:
                files = wished(wishes)
                self.assertLess(line_steps(lambda: is_wishes(60, files, wishes)), STEPS)
                self.assertLess(line_steps(lambda: wished(wishes)), STEPS)
                self.assertLess(line_steps(lambda: wishers(wishes, 0)), STEPS)
                self.assertLess(line_steps(lambda: leaders(wishes)), STEPS)


if __name__ == "__main__":
    unittest.main()
