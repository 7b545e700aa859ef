import itertools
import math
import unittest

from lackcry.cries import cries
from lackcry.errors import NoWish
from lackcry.lots import choose
from lackcry.making import made
from lackcry.telling import known, told_file
from lackcry.wishes import wished
from tests.helpers import (
    PRIMES, cry_by_words, drawn, drawn_file, drawn_wishes, few_wishes, files_for, led_lots, on_shelf, rank,
    same_kind, sixty_wishes,
)


def had_by(hands, t, hand, files):
    """All files as the hand has them, and one that nobody wishes."""
    told = {number: on_shelf(hands, t, hand, file) for number, file in files.items()}
    told[123456] = (None,)
    return told


def wishing(wishes):
    return [hand for hand, wish in enumerate(wishes) if wish is not None]


def cases(most, name):
    """(p, t, wishes, files, made cries by the words) of one to so many hands, all t."""
    source = drawn(name)
    for wishes in few_wishes(most):
        for t in range(len(wishes) + 1):
            p = source.choice(PRIMES)
            files = files_for(source, p, wishes, math.comb(len(wishes), t))
            yield p, t, wishes, files, tuple(cry_by_words(p, files, wishes, lot) for lot in led_lots(t, wishes))


class ToldFile(unittest.TestCase):
    def check(self, p, t, wishes, hand, files, heard):
        had = had_by(len(wishes), t, hand, files)
        before = repr((had, wishes, heard))
        told = told_file(p, t, wishes, hand, had, heard)
        self.assertTrue(same_kind(told, files[wishes[hand]]), (p, t, wishes, hand))
        self.assertEqual(told_file(cries=heard, files=had, hand=hand, wishes=wishes, t=t, p=p), told)
        self.assertEqual(repr((had, wishes, heard)), before)

    def test_each_hand_that_wishes(self):
        for p, t, wishes, files, heard in cases(6, "told_file"):
            for hand in wishing(wishes):
                self.check(p, t, wishes, hand, files, heard)

    def test_more_hands(self):
        source = drawn("more hands")
        for hands in (7, 8, 10):
            for t in range(hands + 1):
                for _ in range(2):
                    p = source.choice(PRIMES)
                    wishes = drawn_wishes(source, hands, tuple(range(source.randrange(1, hands))))
                    files = files_for(source, p, wishes, choose(hands, t))
                    heard = cries(p, t, files, wishes)
                    for hand in wishing(wishes)[-2:]:
                        self.check(p, t, wishes, hand, files, heard)

    def test_to_sixty_hands(self):
        source = drawn("sixty told")
        p = 999999937
        for wishes in sixty_wishes():
            for t in (0, 1, 59, 60):
                files = files_for(source, p, wishes, choose(60, t))
                heard = cries(p, t, files, wishes)
                for hand in {wishing(wishes)[0], wishing(wishes)[-1], source.choice(wishing(wishes))}:
                    self.check(p, t, wishes, hand, files, heard)

    def test_sixty_hands_that_have_two_or_all_but_two(self):
        source = drawn("two")
        wishes = (7,) * 60
        for t in (2, 58):
            files = files_for(source, 101, wishes, 1770)
            self.check(101, t, wishes, 59, files, cries(101, t, files, wishes))

    def test_refused_where_it_wishes_none(self):
        for p, t, wishes, files, heard in cases(5, "no wish"):
            for hand, wish in enumerate(wishes):
                if wish is None:
                    had = had_by(len(wishes), t, hand, files)
                    with self.assertRaises(NoWish) as caught:
                        told_file(p, t, wishes, hand, had, heard)
                    self.assertTrue(same_kind(caught.exception.hand, hand))
        with self.assertRaises(NoWish) as caught:
            told_file(7, 1, (None,) * 60, 59, {}, ())
        self.assertEqual(caught.exception.hand, 59)


class Layings:
    """All layings of all wished files in which a hand has what it has, with their made cries."""

    def __init__(self, p, t, wishes, hand, had):
        self.own = wishes[hand]
        lots = led_lots(t, wishes)
        empty = [
            (number, place) for number in wished(wishes) for place, here in enumerate(had[number]) if here is None
        ]
        self.rows = []
        for numbers in itertools.product(range(p), repeat=len(empty)):
            files = {number: list(had[number]) for number in wished(wishes)}
            for (number, place), here in zip(empty, numbers):
                files[number][place] = here
            row = tuple(cry_by_words(p, files, wishes, lot) for lot in lots)
            self.rows.append((row, tuple(files[self.own])))

    def known(self, heard):
        right = [
            file for row, file in self.rows
            if all(here is None or here == there for here, there in zip(heard, row))
        ]
        return tuple(pieces[0] if len(set(pieces)) == 1 else None for pieces in zip(*right))


def settled_by_rank(p, t, wishes, hand, files, heard):
    """known, by ranks: a piece is settled just where its own row hangs on those heard."""
    hands = len(wishes)
    every = list(itertools.combinations(range(hands), t))
    columns = [(number, lot) for number in wished(wishes) for lot in every if hand not in lot]
    rows = []
    for lot, here in zip(led_lots(t, wishes), heard):
        row = [0] * len(columns)
        for place, other in enumerate(lot):
            key = (wishes[other], lot[:place] + lot[place + 1:])
            if key in columns:
                row[columns.index(key)] = (-1) ** place
        if here is not None:
            rows.append(row)
    told = []
    for lot, number in zip(every, files[wishes[hand]]):
        if hand not in lot:
            alone = [int(column == (wishes[hand], lot)) for column in columns]
            number = number if rank(p, rows + [alone]) == rank(p, rows) else None
        told.append(number)
    return tuple(told)


class Known(unittest.TestCase):
    def check_all_layings(self, p, t, wishes, hand, source, most):
        files = files_for(source, p, wishes, math.comb(len(wishes), t))
        had = had_by(len(wishes), t, hand, files)
        layings = Layings(p, t, wishes, hand, had)
        cried = tuple(cry_by_words(p, files, wishes, lot) for lot in led_lots(t, wishes))
        patterns = list(itertools.product((True, False), repeat=len(cried)))
        if len(patterns) > most:
            patterns = [patterns[0], patterns[-1]] + source.sample(patterns, most)
        for pattern in patterns:
            heard = tuple(number if here else None for number, here in zip(cried, pattern))
            before = repr((had, wishes, heard))
            told = known(p, t, wishes, hand, had, heard)
            self.assertTrue(same_kind(told, layings.known(heard)), (p, t, wishes, hand, heard))
            self.assertEqual(known(heard=heard, files=had, hand=hand, wishes=wishes, t=t, p=p), told)
            self.assertEqual(repr((had, wishes, heard)), before)

    def test_all_layings_of_few_hands(self):
        source = drawn("layings")
        for p in (2, 3):
            for wishes in few_wishes(3):
                for t in range(len(wishes) + 1):
                    for hand in wishing(wishes):
                        if p ** (len(wished(wishes)) * choose(len(wishes) - 1, t)) <= 300:
                            self.check_all_layings(p, t, wishes, hand, source, 8)

    def test_all_layings_of_four_and_five_hands(self):
        source = drawn("more layings")
        for wishes in ((0, 0, 1, 1), (1, 0, 0, 0), (5, 5, 5, 5), (0, 1, 0, 1), (None, 2, 0, 2), (3, None, 3, 3),
                       (0, 0, 0, 0, 0), (1, None, 0, 1, 0)):
            hands = len(wishes)
            for t in range(hands + 1):
                for hand in wishing(wishes):
                    if 2 ** (len(wished(wishes)) * choose(hands - 1, t)) <= 300:
                        self.check_all_layings(2, t, wishes, hand, source, 12)

    def test_by_ranks_to_six_hands(self):
        source = drawn("ranks")
        for p, t, wishes, files, cried in cases(6, "ranks"):
            for hand in wishing(wishes)[-2:]:
                had = had_by(len(wishes), t, hand, files)
                for share in (2, 5):
                    heard = tuple(number if source.randrange(6) < share else None for number in cried)
                    told = known(p, t, wishes, hand, had, heard)
                    wanted = settled_by_rank(p, t, wishes, hand, files, heard)
                    self.assertTrue(same_kind(told, wanted), (p, t, wishes, hand, heard))

    def test_all_heard_is_the_whole_file(self):
        for p, t, wishes, files, cried in cases(6, "all heard"):
            for hand in wishing(wishes):
                had = had_by(len(wishes), t, hand, files)
                self.assertTrue(same_kind(known(p, t, wishes, hand, had, cried), files[wishes[hand]]))

    def test_none_heard_is_the_shelf(self):
        for p, t, wishes, files, cried in cases(6, "none heard"):
            for hand in wishing(wishes):
                had = had_by(len(wishes), t, hand, files)
                told = known(p, t, wishes, hand, had, (None,) * len(cried))
                self.assertTrue(same_kind(told, had[wishes[hand]]))

    def test_a_cry_without_the_hand_tells_it_something(self):
        # The piece of (1,) comes by the cry of (1, 2), which isn't made; the two made ones together tell it.
        wishes, files = (0, 0, 0), {0: (1, 5, 3)}
        had = {0: (None, None, 3)}
        heard = cries(7, 1, files, wishes)
        self.assertEqual(heard, ((5 - 1) % 7, (3 - 1) % 7))
        self.assertTrue(same_kind(known(7, 1, wishes, 2, had, (heard[0], None)), (None, None, 3)))
        self.assertTrue(same_kind(known(7, 1, wishes, 2, had, (None, heard[1])), (1, None, 3)))
        self.assertTrue(same_kind(known(7, 1, wishes, 2, had, heard), (1, 5, 3)))

    def test_any_numbers_heard(self):
        # Whatever is heard, some laying has it: the pieces known tell all cries again.
        source = drawn("any heard")
        for wishes in few_wishes(5):
            for t in range(len(wishes) + 1):
                p = source.choice(PRIMES)
                heard = drawn_file(source, p, made(t, wishes))
                files = files_for(source, p, wishes, math.comb(len(wishes), t))
                for hand in wishing(wishes)[:1]:
                    had = had_by(len(wishes), t, hand, files)
                    told = known(p, t, wishes, hand, had, heard)
                    self.assertTrue(same_kind(told, told_file(p, t, wishes, hand, had, heard)))

    def test_somewhat_beyond_six_hands(self):
        source = drawn("beyond")
        wishes = (0, 1, 0, 2, None, 1, 0)
        files = files_for(source, 101, wishes, 35)
        heard = cries(101, 3, files, wishes)
        for hand in wishing(wishes):
            had = had_by(7, 3, hand, files)
            self.assertEqual(known(101, 3, wishes, hand, had, heard), files[wishes[hand]])

    def test_refused_where_it_wishes_none(self):
        for p, t, wishes, files, cried in cases(4, "known none"):
            for hand, wish in enumerate(wishes):
                if wish is None:
                    had = had_by(len(wishes), t, hand, files)
                    for heard in (cried, (None,) * len(cried)):
                        with self.assertRaises(NoWish) as caught:
                            known(p, t, wishes, hand, had, heard)
                        self.assertTrue(same_kind(caught.exception.hand, hand))


if __name__ == "__main__":
    unittest.main()
