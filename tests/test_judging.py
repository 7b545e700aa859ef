import itertools
import unittest

from lackcry.cries import cries
from lackcry.judging import judged, ours
from lackcry.making import made
from lackcry.papers import alike, enough, shows_alike, shows_enough
from lackcry.sums import is_sum
from tests.helpers import (
    PRIMES, any_sum, drawn, few_wishes, files_for, makings, mixed, rank, same_kind, words_making,
)


def lots_of(t, wishes):
    return list(itertools.combinations(range(len(wishes)), t))


def judged_by_layings(p, t, wishes, making):
    """judged, by going through all layings of all files: a piece that isn't told is unlike in two that sound alike."""
    lots = lots_of(t, wishes)
    numbers = {wish for wish in wishes if wish is not None} | {part[0] for sum_ in making for part in sum_}
    keys = [(number, lot) for number in sorted(numbers) for lot in lots]
    layings = [dict(zip(keys, row)) for row in itertools.product(range(p), repeat=len(keys))]
    heard = [
        tuple(sum(laying[number, lot] * many for number, lot, many in sum_) % p for sum_ in making)
        for laying in layings
    ]
    for hand, wish in enumerate(wishes):
        lacked = [lot for lot in lots if hand not in lot]
        told = {}
        for laying, sound in zip(layings, heard):
            had = tuple(laying[key] for key in keys if hand in key[1])
            if wish is not None:
                told.setdefault((had, sound), []).append([laying[wish, lot] for lot in lacked])
        for at, lot in enumerate(lacked):
            if any(len({row[at] for row in rows}) > 1 for rows in told.values()):
                return ("lacks", hand, lot)
    return ("all",)


def judged_by_ranks(p, t, wishes, making):
    """judged, by ranks: a piece is told just where its own row hangs on those heard."""
    lots = lots_of(t, wishes)
    for hand, wish in enumerate(wishes):
        if wish is None:
            continue
        lacked = [(wish, lot) for lot in lots if hand not in lot]
        other = [part[:2] for sum_ in making for part in sum_ if hand not in part[1]]
        columns = sorted(set(lacked + other))
        rows = []
        for sum_ in making:
            there = {part[:2]: part[2] for part in sum_}
            rows.append([there.get(key, 0) for key in columns])
        for key in lacked:
            alone = [int(column == key) for column in columns]
            if rank(p, rows + [alone]) != rank(p, rows):
                return ("lacks", hand, key[1])
    return ("all",)


class Ours(unittest.TestCase):
    def test_made_cries_as_sums_of_pieces(self):
        for wishes in few_wishes(6):
            for t in range(len(wishes) + 1):
                for p in (2, 3, 999999937):
                    before = repr(wishes)
                    told = ours(p, t, wishes)
                    self.assertTrue(same_kind(told, words_making(p, t, wishes)), (p, t, wishes))
                    self.assertEqual(ours(wishes=wishes, t=t, p=p), told)
                    self.assertEqual(len(told), made(t, wishes))
                    self.assertTrue(all(is_sum(p, len(wishes), t, sum_) for sum_ in told))
                    self.assertEqual(repr(wishes), before)

    def test_they_come_to_the_cries(self):
        source = drawn("come to")
        for wishes in few_wishes(6):
            for t in range(len(wishes) + 1):
                p = source.choice(PRIMES)
                lots = lots_of(t, wishes)
                files = files_for(source, p, wishes, len(lots))
                told = tuple(
                    sum(files[number][lots.index(lot)] * many for number, lot, many in sum_) % p
                    for sum_ in ours(p, t, wishes)
                )
                self.assertEqual(told, cries(p, t, files, wishes))

    def test_signs_of_two(self):
        self.assertEqual(ours(2, 0, (4, 4)), (((4, (), 1),),))
        self.assertEqual(ours(2, 1, (4, 3)), (((3, (0,), 1), (4, (1,), 1)),))
        self.assertEqual(ours(7, 1, (4, 3)), (((3, (0,), 6), (4, (1,), 1)),))

    def test_none(self):
        for hands in range(1, 7):
            for t in range(hands + 1):
                self.assertTrue(same_kind(ours(5, t, (None,) * hands), ()))
            self.assertTrue(same_kind(ours(5, hands, tuple(range(hands))), ()))


class Judged(unittest.TestCase):
    def check(self, p, t, wishes, making, wanted):
        before = repr((wishes, making))
        told = judged(p, t, wishes, making)
        self.assertTrue(same_kind(told, wanted), (p, t, wishes, making, told, wanted))
        self.assertEqual(judged(making=making, wishes=wishes, t=t, p=p), told)
        self.assertEqual(repr((wishes, making)), before)

    def test_all_layings(self):
        source = drawn("judged layings")
        kinds = set()
        many = 0
        for p, most in ((2, 9), (3, 6), (5, 3)):
            for wishes in few_wishes(5):
                for t in range(len(wishes) + 1):
                    for making in makings(source, p, t, wishes):
                        numbers = {wish for wish in wishes if wish is not None}
                        numbers |= {part[0] for sum_ in making for part in sum_}
                        if len(numbers) * len(lots_of(t, wishes)) <= most:
                            wanted = judged_by_layings(p, t, wishes, making)
                            self.check(p, t, wishes, making, wanted)
                            kinds.add(wanted[0])
                            many += 1
        self.assertEqual(kinds, {"all", "lacks"})
        self.assertGreater(many, 2000)

    def test_ranks_to_five_hands(self):
        source = drawn("judged ranks")
        kinds = set()
        for wishes in few_wishes(5):
            for t in range(len(wishes) + 1):
                p = source.choice(PRIMES)
                for making in source.sample(list(makings(source, p, t, wishes)), 8):
                    wanted = judged_by_ranks(p, t, wishes, making)
                    self.check(p, t, wishes, making, wanted)
                    kinds.add(wanted[:2])
        self.assertTrue({("all",), ("lacks", 0), ("lacks", 1), ("lacks", 2), ("lacks", 3)} <= kinds)

    def test_ranks_of_six_hands(self):
        source = drawn("six ranks")
        for wishes in ((0, 1, 2, 3, 4, 5), (0, 0, 1, 1, None, 2), (7,) * 6, (None, 3, 3, 3, 1, None)):
            for t in range(7):
                p = source.choice(PRIMES)
                for making in source.sample(list(makings(source, p, t, wishes)), 3):
                    self.check(p, t, wishes, making, judged_by_ranks(p, t, wishes, making))

    def test_made_cries_serve_all(self):
        source = drawn("serve all")
        for wishes in few_wishes(6):
            for t in range(len(wishes) + 1):
                p = source.choice(PRIMES)
                own = words_making(p, t, wishes)
                self.check(p, t, wishes, own, ("all",))
                self.check(p, t, wishes, tuple(source.sample(own, len(own))), ("all",))
                self.check(p, t, wishes, own + mixed(source, p, own, 2), ("all",))

    def test_fewer_serve_not_all(self):
        source = drawn("fewer")
        for wishes in few_wishes(6):
            for t in range(len(wishes)):
                p = source.choice(PRIMES)
                own = words_making(p, t, wishes)
                if not own:
                    continue
                keys = sorted({part[:2] for sum_ in own for part in sum_})
                for making in (
                    own[1:],
                    own[:-1],
                    mixed(source, p, own, len(own) - 1),
                    tuple(any_sum(source, p, keys) for _ in range(len(own) - 1)),
                    ((),) * len(own) + own[1:],
                ):
                    told = judged(p, t, wishes, making)
                    self.assertEqual(told[0], "lacks", (p, t, wishes, making))

    def test_nobody_lacks_anything(self):
        for hands in range(1, 7):
            for making in ((), ((),), (((5, tuple(range(hands)), 1),),)):
                self.check(3, hands, tuple(range(hands)), making, ("all",))
                self.check(3, hands, (None,) * hands, making, ("all",))
            for t in range(hands + 1):
                lot = tuple(range(t))
                for making in ((), ((),), (((5, lot, 1),),)):
                    self.check(2, t, (None,) * hands, making, ("all",))

    def test_no_sums(self):
        for wishes in few_wishes(5):
            for t in range(len(wishes)):
                hand = next((hand for hand, wish in enumerate(wishes) if wish is not None), None)
                if hand is not None:
                    lot = next(lot for lot in lots_of(t, wishes) if hand not in lot)
                    for making in ((), ((),), ((), ())):
                        self.check(7, t, wishes, making, ("lacks", hand, lot))

    def test_signs_matter_but_not_to_two(self):
        wishes = (0, 0, 0)
        own = words_making(7, 1, wishes)
        bare = tuple(tuple((number, lot, 1) for number, lot, many in sum_) for sum_ in own)
        self.check(7, 1, wishes, own, ("all",))
        self.check(2, 1, wishes, bare, ("all",))
        self.assertEqual(judged(7, 1, wishes, bare), judged_by_ranks(7, 1, wishes, bare))

    def test_the_papers_agree(self):
        source = drawn("papers agree")
        for wishes in few_wishes(4):
            for t in range(len(wishes) + 1):
                p = source.choice(PRIMES)
                for making in makings(source, p, t, wishes):
                    told = judged(p, t, wishes, making)
                    paper, change = enough(p, t, wishes, making), alike(p, t, wishes, making)
                    self.assertEqual(paper is None, told[0] == "lacks")
                    self.assertEqual(change is None, told[0] == "all")
                    if paper is None:
                        self.assertIs(shows_alike(p, t, wishes, making, change), True)
                    else:
                        self.assertIs(shows_enough(p, t, wishes, making, paper), True)

    def test_many_long_sums(self):
        source = drawn("long sums")
        wishes = (0, 1, 2, 3, 4, 5)
        lots = lots_of(3, wishes)
        own = words_making(101, 3, wishes)
        for files in (10, 60, 300):
            keys = [(number, lot) for number in range(6, files) for lot in lots]
            long = tuple(
                tuple(sorted((*key, source.randrange(1, 101)) for key in source.sample(keys, min(len(keys), 200))))
                for _ in range(60 - len(own))
            )
            self.assertEqual(judged(101, 3, wishes, own + long), ("all",))
            paper = enough(101, 3, wishes, own + long)
            self.assertIs(shows_enough(101, 3, wishes, own + long, paper), True)
            self.assertEqual(judged(101, 3, wishes, own[1:] + long)[0], "lacks")
            self.assertIs(shows_alike(101, 3, wishes, own[1:] + long, alike(101, 3, wishes, own[1:] + long)), True)


if __name__ == "__main__":
    unittest.main()
