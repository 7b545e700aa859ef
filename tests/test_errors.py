import unittest

from lackcry import errors
from lackcry.errors import Gone, NotSo
from tests.helpers import NO_NUMBERS

# Each refusal with its family and the name of its value, as the interface lists them.
REFUSALS = {
    "TooMany": (NotSo, "many"),
    "TooFew": (NotSo, "many"),
    "NoWish": (NotSo, "hand"),
    "BadHouse": (NotSo, "thing"),
    "BadFile": (NotSo, "thing"),
    "BadWishes": (NotSo, "thing"),
    "NoSpares": (NotSo, "thing"),
    "NoText": (NotSo, "row"),
    "NoLine": (NotSo, "thing"),
    "NoLot": (NotSo, "thing"),
    "ByDay": (NotSo, None),
    "ByNight": (NotSo, None),
    "NoNumber": (Gone, "thing"),
    "NoFile": (Gone, "thing"),
    "NoHand": (Gone, "thing"),
    "Over": (Gone, None),
}
VALUES = NO_NUMBERS + (0, 1, 2001, 10 ** 30, "done", b"x")


class Families(unittest.TestCase):
    def test_families_stand_under_python_s_errors_alone(self):
        self.assertEqual(NotSo.__bases__, (ValueError,))
        self.assertEqual(Gone.__bases__, (LookupError,))
        self.assertFalse(issubclass(NotSo, LookupError))
        self.assertFalse(issubclass(Gone, ValueError))

    def test_sixteen_refusals_and_no_more(self):
        there = [
            name for name, thing in vars(errors).items()
            if isinstance(thing, type) and thing not in (NotSo, Gone)
        ]
        self.assertEqual(sorted(there), sorted(REFUSALS))
        self.assertEqual(len(there), 16)

    def test_each_stands_straight_under_its_family(self):
        for name, (family, _) in REFUSALS.items():
            with self.subTest(name):
                self.assertEqual(getattr(errors, name).__bases__, (family,))

    def test_each_is_caught_by_its_own_name_family_and_kind_only(self):
        for name, (family, value) in REFUSALS.items():
            made = getattr(errors, name)
            error = made() if value is None else made(7)
            with self.subTest(name):
                self.assertEqual(isinstance(error, ValueError), family is NotSo)
                self.assertEqual(isinstance(error, LookupError), family is Gone)
                self.assertEqual(isinstance(error, NotSo), family is NotSo)
                self.assertEqual(isinstance(error, Gone), family is Gone)
                others = [getattr(errors, other) for other in REFUSALS if other != name]
                self.assertFalse(isinstance(error, tuple(others)))
                with self.assertRaises(made):
                    raise error


class Values(unittest.TestCase):
    def test_value_is_just_what_was_handed_in(self):
        for name, (_, value) in REFUSALS.items():
            if value is None:
                continue
            made = getattr(errors, name)
            for thing in VALUES:
                with self.subTest(name, thing=thing):
                    before = repr(thing)
                    by_place = made(thing)
                    by_name = made(**{value: thing})
                    self.assertIs(getattr(by_place, value), thing)
                    self.assertIs(getattr(by_name, value), thing)
                    self.assertEqual(list(vars(by_place)), [value])
                    self.assertEqual(list(vars(by_name)), [value])
                    self.assertEqual(len(by_place.args), 1)
                    self.assertIs(by_place.args[0], thing)
                    self.assertEqual(repr(thing), before)

    def test_value_is_needed_where_one_is_told(self):
        for name, (_, value) in REFUSALS.items():
            if value is not None:
                with self.subTest(name), self.assertRaises(TypeError):
                    getattr(errors, name)()

    def test_those_without_a_value_hold_nothing(self):
        for name, (_, value) in REFUSALS.items():
            if value is None:
                with self.subTest(name):
                    error = getattr(errors, name)()
                    self.assertEqual(vars(error), {})
                    self.assertEqual(error.args, ())


if __name__ == "__main__":
    unittest.main()
