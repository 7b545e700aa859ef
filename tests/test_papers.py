import itertools
import unittest

from lackcry.judging import judged
from lackcry.papers import alike, enough, shows_alike, shows_enough
from tests.helpers import (
    ANYTHING, PRIMES, as_sum, drawn, few_wishes, makings, mixed, same_kind, spoilt, words_making,
)


def lots_of(t, wishes):
    return list(itertools.combinations(range(len(wishes)), t))


def needs(t, wishes):
    """Each hand that wishes with each lot that lacks it, rising."""
    return [
        (hand, lot) for hand, wish in enumerate(wishes) if wish is not None
        for lot in lots_of(t, wishes) if hand not in lot
    ]


def total(p, making, weights):
    """All sums, each so many times, together: a dict without noughts."""
    told = {}
    for sum_, weight in zip(making, weights):
        for number, lot, many in sum_:
            told[number, lot] = (told.get((number, lot), 0) + weight * many) % p
    return {key: many for key, many in told.items() if many}


def is_enough(p, t, wishes, making, thing):
    """Whether it is a paper as point 25 says it, asked for with care."""
    wanted = needs(t, wishes)
    if type(thing) is not tuple or any(type(row) is not tuple or len(row) != 3 for row in thing):
        return False
    if repr([row[:2] for row in thing]) != repr(wanted):
        return False
    for hand, lot, weights in thing:
        if type(weights) is not tuple or len(weights) != len(making):
            return False
        if any(type(weight) is not int or not 0 <= weight < p for weight in weights):
            return False
        left = total(p, making, weights)
        if left.pop((wishes[hand], lot), 0) != 1 or any(hand not in key[1] for key in left):
            return False
    return True


def is_alike(p, t, wishes, making, thing):
    """Whether it is a paper as point 26 says it, asked for with care."""
    if type(thing) is not tuple or len(thing) != 2:
        return False
    hand, change = thing
    if type(hand) is not int or not 0 <= hand < len(wishes) or wishes[hand] is None or type(change) is not tuple:
        return False
    lots = [repr(lot) for lot in lots_of(t, wishes) if hand not in lot]
    for part in change:
        if type(part) is not tuple or len(part) != 3 or repr(part[1]) not in lots:
            return False
        if type(part[0]) is not int or type(part[2]) is not int:
            return False
        if not 0 <= part[0] < 10 ** 6 or not 0 < part[2] < p:
            return False
    keys = [part[:2] for part in change]
    if keys != sorted(set(keys)) or wishes[hand] not in [part[0] for part in change]:
        return False
    by = {part[:2]: part[2] for part in change}
    return all(sum(many * by.get((number, lot), 0) for number, lot, many in sum_) % p == 0 for sum_ in making)


def cases(source, most, each):
    """(p, t, wishes, making) of one to so many hands, some makings of each."""
    for wishes in few_wishes(most):
        for t in range(len(wishes) + 1):
            p = source.choice(PRIMES)
            every = list(makings(source, p, t, wishes))
            for making in source.sample(every, min(each, len(every))):
                yield p, t, wishes, making


class Enough(unittest.TestCase):
    def test_a_paper_just_where_all_can(self):
        kinds = set()
        for p, t, wishes, making in cases(drawn("enough"), 5, 6):
            before = repr((wishes, making))
            told = enough(p, t, wishes, making)
            kinds.add(told is None)
            self.assertEqual(enough(making=making, wishes=wishes, t=t, p=p), told)
            self.assertEqual(told is None, judged(p, t, wishes, making)[0] == "lacks")
            if told is not None:
                self.assertTrue(is_enough(p, t, wishes, making, told), (p, t, wishes, making))
                self.assertIs(shows_enough(p, t, wishes, making, told), True)
            self.assertEqual(repr((wishes, making)), before)
        self.assertEqual(kinds, {True, False})

    def test_of_the_made_cries_to_six_hands(self):
        source = drawn("made enough")
        for wishes in few_wishes(6):
            for t in range(len(wishes) + 1):
                p = source.choice(PRIMES)
                own = words_making(p, t, wishes)
                told = enough(p, t, wishes, own)
                self.assertTrue(is_enough(p, t, wishes, own, told))
                self.assertIs(shows_enough(p, t, wishes, own, told), True)

    def test_nobody_lacks_anything(self):
        for hands in range(1, 7):
            lot = tuple(range(hands))
            for making in ((), ((),), (((5, lot, 1),),)):
                self.assertTrue(same_kind(enough(3, hands, lot, making), ()))
                self.assertTrue(same_kind(enough(3, hands, (None,) * hands, making), ()))
                self.assertIs(shows_enough(3, hands, lot, making, ()), True)
                self.assertIs(shows_enough(3, hands, lot, making, []), False)
                self.assertIs(shows_enough(3, hands, lot, making, ((0, lot, (0,) * len(making)),)), False)
                self.assertIsNone(alike(3, hands, lot, making))


class ShowsEnough(unittest.TestCase):
    def told(self, p, t, wishes, making, thing, wanted):
        before = repr((thing, wishes, making))
        self.assertIs(shows_enough(p, t, wishes, making, thing), wanted, (p, t, wishes, making, thing))
        self.assertEqual(repr((thing, wishes, making)), before)

    def test_by_names(self):
        self.assertIs(shows_enough(thing=(), making=(), wishes=(None,), t=0, p=2), True)
        self.assertIs(shows_enough(thing=(), making=(), wishes=(1,), t=0, p=2), False)

    def test_rows_exchanged_left_out_twice(self):
        for p, t, wishes, making in cases(drawn("rows"), 5, 3):
            paper = enough(p, t, wishes, making)
            if not paper:
                continue
            self.told(p, t, wishes, making, paper, True)
            self.told(p, t, wishes, making, paper[1:], False)
            self.told(p, t, wishes, making, paper[:-1], False)
            self.told(p, t, wishes, making, paper + paper[-1:], False)
            self.told(p, t, wishes, making, paper[:1] + paper, False)
            self.told(p, t, wishes, making, (), False)
            if len(paper) > 1:
                self.told(p, t, wishes, making, paper[1:2] + paper[:1] + paper[2:], False)
                self.told(p, t, wishes, making, paper[::-1], False)
                # The weights of another row, but hand and lot in order.
                turned = tuple(one[:2] + other[2:] for one, other in zip(paper, paper[1:] + paper[:1]))
                self.told(p, t, wishes, making, turned, is_enough(p, t, wishes, making, turned))

    def test_weights_spoilt(self):
        for p, t, wishes, making in cases(drawn("weights"), 4, 4):
            paper = enough(p, t, wishes, making)
            if not paper or not making:
                continue
            hand, lot, weights = paper[-1]
            for wrong in (
                weights + (0,), weights[:-1], (), (0,) * len(weights), list(weights), None, str(weights),
                weights[:-1] + (weights[-1] + p,), weights[:-1] + (weights[-1] - p,), weights[:-1] + (p,),
                weights[:-1] + (-1,), weights[:-1] + (True,), weights[:-1] + (False,), weights[:-1] + (None,),
                weights[:-1] + (str(weights[-1]),), weights[:-1] + ((weights[-1],),),
            ):
                self.told(p, t, wishes, making, paper[:-1] + ((hand, lot, wrong),), False)

    def test_other_weights_that_do_as_well(self):
        source = drawn("other weights")
        for wishes in few_wishes(4):
            for t in range(len(wishes)):
                p = source.choice(PRIMES)
                own = words_making(p, t, wishes)
                making = own + own
                paper = enough(p, t, wishes, making)
                if not paper:
                    continue
                many = len(own)
                others = []
                for hand, lot, weights in paper:
                    both = [(weights[at] + weights[at + many]) % p for at in range(many)]
                    some = [source.randrange(p) for _ in range(many)]
                    rest = [(whole - less) % p for whole, less in zip(both, some)]
                    others.append((hand, lot, tuple(some + rest)))
                self.told(p, t, wishes, making, tuple(others), True)

    def test_spoilt_at_any_place(self):
        source = drawn("spoilt papers")
        wrong = right = 0
        for wishes in ((0,), (1, 0), (0, 0), (None, 1), (0, 1, 1), (2, None, 2), (0, 0, 0)):
            for t in range(len(wishes) + 1):
                for p in (2, 3):
                    own = words_making(p, t, wishes)
                    for making in (own, own + own[:1], mixed(source, p, own, len(own) + 1), own + ((),)):
                        for thing in spoilt(enough(p, t, wishes, making)):
                            wanted = is_enough(p, t, wishes, making, thing)
                            self.told(p, t, wishes, making, thing, wanted)
                            right += wanted
                            wrong += not wanted
        self.assertGreater(wrong, 1000)
        self.assertGreater(right, 10)

    def test_of_anything(self):
        for p, t, wishes in ((2, 0, (1,)), (3, 1, (0, 1)), (7, 1, (None, 2, 2)), (5, 2, (None, None))):
            own = words_making(p, t, wishes)
            paper = enough(p, t, wishes, own)
            for thing in ANYTHING:
                self.told(p, t, wishes, own, thing, is_enough(p, t, wishes, own, thing))
                self.told(p, t, wishes, own, (thing,) * len(paper), paper == ())
                for row in paper[:1]:
                    for place in range(3):
                        wrong = row[:place] + (thing,) + row[place + 1:]
                        wanted = is_enough(p, t, wishes, own, (wrong,) + paper[1:])
                        self.told(p, t, wishes, own, (wrong,) + paper[1:], wanted)


class Alike(unittest.TestCase):
    def test_a_paper_just_where_some_hand_can_t(self):
        kinds = set()
        for p, t, wishes, making in cases(drawn("alike"), 5, 6):
            before = repr((wishes, making))
            told = alike(p, t, wishes, making)
            kinds.add(told is None)
            self.assertEqual(alike(making=making, wishes=wishes, t=t, p=p), told)
            self.assertEqual(told is None, judged(p, t, wishes, making) == ("all",))
            if told is not None:
                self.assertTrue(is_alike(p, t, wishes, making, told), (p, t, wishes, making, told))
                self.assertIs(shows_alike(p, t, wishes, making, told), True)
            self.assertEqual(repr((wishes, making)), before)
        self.assertEqual(kinds, {True, False})

    def test_by_the_change_nothing_had_or_heard_changes_but_the_own_file_does(self):
        source = drawn("by the change")
        for p, t, wishes, making in cases(source, 5, 3):
            told = alike(p, t, wishes, making)
            if told is None:
                continue
            hand, change = told
            lots = lots_of(t, wishes)
            numbers = {wish for wish in wishes if wish is not None}
            numbers |= {part[0] for sum_ in making for part in sum_} | {part[0] for part in change}
            files = {(number, lot): source.randrange(p) for number in numbers for lot in lots}
            after = dict(files)
            for number, lot, many in change:
                after[number, lot] = (after[number, lot] + many) % p
            sounds = [
                [sum(laying[part[:2]] * part[2] for part in sum_) % p for sum_ in making] for laying in (files, after)
            ]
            self.assertEqual(sounds[0], sounds[1])
            self.assertTrue(all(files[key] == after[key] for key in files if hand in key[1]))
            self.assertNotEqual(
                [files[wishes[hand], lot] for lot in lots], [after[wishes[hand], lot] for lot in lots]
            )


class ShowsAlike(unittest.TestCase):
    def told(self, p, t, wishes, making, thing, wanted):
        before = repr((thing, wishes, making))
        self.assertIs(shows_alike(p, t, wishes, making, thing), wanted, (p, t, wishes, making, thing))
        self.assertEqual(repr((thing, wishes, making)), before)

    def test_by_names(self):
        self.assertIs(shows_alike(thing=(0, ((1, (), 1),)), making=(), wishes=(1,), t=0, p=2), True)
        self.assertIs(shows_alike(thing=(0, ((2, (), 1),)), making=(), wishes=(1,), t=0, p=2), False)

    def test_each_fault_by_itself(self):
        wishes = (4, 4, 9, None)
        # Hand 2 lacks of file 9 the pieces of 0, 1, 3; it hears those of 0 and 1 only together.
        making = (((9, (0,), 2), (9, (1,), 3)), ((4, (3,), 1), (9, (3,), 1)), ((4, (1,), 1), (9, (2,), 1)), ())
        right = (2, ((9, (0,), 2), (9, (1,), 1)))
        self.told(7, 1, wishes, making, right, True)
        for thing, wanted in (
            ((2, ((9, (0,), 4), (9, (1,), 2))), True),
            ((2, ((4, (3,), 1), (9, (3,), 6))), True),
            ((2, ((4, (0,), 5), (9, (0,), 2), (9, (1,), 1))), True),
            ((2, ((9, (0,), 2), (9, (1,), 1), (77, (1,), 1))), True),
            ((2, ((9, (0,), 2), (9, (1,), 1), (999999, (1,), 1))), True),
            ((2, ((9, (0,), 2), (9, (1,), 1), (1000000, (1,), 1))), False),
            ((2, ((-1, (0,), 2), (9, (0,), 2), (9, (1,), 1))), False),
            ((0, right[1]), False),
            ((1, right[1]), False),
            ((3, right[1]), False),
            ((4, right[1]), False),
            ((-2, right[1]), False),
            ((True, ((4, (0,), 1),)), False),
            ((1, ((4, (0,), 1),)), True),
            ((2, ()), False),
            ((2, right[1][:1]), False),
            ((2, right[1][1:]), False),
            ((2, right[1][::-1]), False),
            ((2, right[1] + right[1][1:]), False),
            ((2, right[1] + ((9, (1,), 2),)), False),
            ((2, right[1] + ((9, (2,), 1),)), False),
            ((2, right[1] + ((9, (3,), 1),)), False),
            ((2, ((4, (2,), 1),) + right[1]), False),
            ((2, ((4, (0,), 1),)), False),
            ((2, ((77, (0,), 1),)), False),
            ((2, ((9, (0,), 2), (9, (1,), 8))), False),
            ((2, ((9, (0,), 9), (9, (1,), 1))), False),
            ((2, ((9, (0,), -5), (9, (1,), 1))), False),
            ((2, ((4, (0,), 0),) + right[1]), False),
            ((2, ((4, (0,), 7),) + right[1]), False),
            ((2, ((4, (0,), True),) + right[1]), False),
            ((2, ((4, (0, 1), 1),) + right[1]), False),
            ((2, ((4, (), 1),) + right[1]), False),
            ((2, ((4, (4,), 1),) + right[1]), False),
            ((2, ((4, [0], 1),) + right[1]), False),
            ((2, ([4, (0,), 1],) + right[1]), False),
            ((2, list(right[1])), False),
            (list(right), False),
            (right + (0,), False),
            (right[:1], False),
        ):
            self.told(7, 1, wishes, making, thing, wanted)

    def test_another_hand_a_part_more_a_part_fewer(self):
        source = drawn("more and fewer")
        wrong = right = 0
        for p, t, wishes, making in cases(source, 5, 4):
            paper = alike(p, t, wishes, making)
            if paper is None:
                continue
            hand, change = paper
            things = [(other, change) for other in range(-1, len(wishes) + 1)]
            things += [(hand, change[:at] + change[at + 1:]) for at in range(len(change))]
            for lot in lots_of(t, wishes):
                for number in {wish for wish in wishes if wish is not None} | {123, 5}:
                    by = {part[:2]: part[2] for part in change}
                    by[number, lot] = by.get((number, lot), 0) + source.randrange(1, p)
                    things.append((hand, as_sum(p, by)))
            for many in range(2, 4):
                things.append((hand, as_sum(p, {part[:2]: part[2] * many for part in change})))
            for thing in things:
                wanted = is_alike(p, t, wishes, making, thing)
                self.told(p, t, wishes, making, thing, wanted)
                right += wanted
                wrong += not wanted
        self.assertGreater(wrong, 1000)
        self.assertGreater(right, 1000)

    def test_spoilt_at_any_place(self):
        for wishes in ((0,), (1, 0), (0, 0), (None, 1), (0, 1, 1), (2, None, 2)):
            for t in range(len(wishes)):
                for p in (2, 3):
                    own = words_making(p, t, wishes)
                    for making in (own[1:], own[:-1], (), ((),)):
                        for thing in spoilt(alike(p, t, wishes, making)):
                            self.told(p, t, wishes, making, thing, is_alike(p, t, wishes, making, thing))

    def test_of_anything(self):
        for p, t, wishes in ((2, 0, (1,)), (3, 1, (0, 1)), (7, 1, (None, 2, 2))):
            paper = alike(p, t, wishes, ())
            for thing in ANYTHING:
                self.told(p, t, wishes, (), thing, False)
                self.told(p, t, wishes, (), (thing, paper[1]), False)
                self.told(p, t, wishes, (), (paper[0], thing), False)
                self.told(p, t, wishes, (), (paper[0], (thing,)), False)
                for place in range(3):
                    part = paper[1][0][:place] + (thing,) + paper[1][0][place + 1:]
                    wanted = is_alike(p, t, wishes, (), (paper[0], (part,)))
                    self.told(p, t, wishes, (), (paper[0], (part,)), wanted)


if __name__ == "__main__":
    unittest.main()
