import itertools
import re
import unittest

from lackcry.errors import NoText
from lackcry.house import House
from lackcry.reading import read_file, read_house, read_making, read_wishes
from lackcry.showing import show_file, show_house, show_making, show_wishes
from tests.helpers import ANYTHING, PRIMES, drawn, drawn_file, drawn_wishes, few_wishes, makings, same_kind
from tests.plain import NUMBER, Plain, first_wrong
from tests.test_house import SOME_PRIMES, drawn_deed, everything

NO_TEXTS = tuple(thing for thing in ANYTHING if type(thing) is not str) + (0, 7, b"0", b"", [""], ("0",))
SIGNS = ("0", "1", "7", "-", " ", "\n", ",", ":", "x", "+", "\t", "\r", "\u0663", "\u00b2", "_", ".", "A")


def put(text, at, sign):
    return text[:at] + sign + text[at:]


def spoilt_text(text, signs=SIGNS):
    """The text with one thing otherwise: a sign put in, left out, another one; a word or a row twice, out, exchanged."""
    for at in range(len(text) + 1):
        for sign in signs:
            yield put(text, at, sign)
            if at < len(text):
                yield text[:at] + sign + text[at + 1:]
        yield text[:at]
        yield text[:at] + text[at + 1:]
    for by in ("\n", " ", ":", ","):
        parts = text.split(by)
        for at in range(len(parts)):
            yield by.join(parts[:at] + parts[at + 1:])
            yield by.join(parts[:at] + parts[at:at + 1] * 2 + parts[at + 1:])
            yield by.join(parts[:at] + parts[at + 1:at + 2] + parts[at:at + 1] + parts[at + 2:])
            yield by.join(parts[:at])
            yield by.join(parts[:at] + ["0" + parts[at]] + parts[at + 1:])
            yield by.join(parts[:at] + ["1234567890"] + parts[at + 1:])
            yield by.join(parts[:at] + ["123456789"] + parts[at + 1:])
            yield by.join(parts[:at] + ["000000000"] + parts[at + 1:])
            yield by.join(parts[:at] + ["-1"] + parts[at + 1:])
            yield by.join(parts[:at] + parts[-1:] + parts[at + 1:])
    yield text.upper()
    yield text + "\n" + text
    yield "\n" + text
    yield " " + text


def wrong_row(text, word):
    """The first row that isn't words of this form by blanks, one row being all; None where all is right."""
    rows = text.split("\n")
    if not re.fullmatch("%s( %s)*" % (word, word), rows[0]):
        return 0
    return 1 if len(rows) > 1 else None


def is_part(word):
    """The (file, lot) of a part by its form, None where it isn't one."""
    if not re.fullmatch("%s:(-|%s(,%s)*):%s" % (NUMBER, NUMBER, NUMBER, NUMBER), word):
        return None
    number, lot, many = word.split(":")
    hands = [] if lot == "-" else [int(hand) for hand in lot.split(",")]
    if hands != sorted(set(hands)) or int(many) == 0:
        return None
    return int(number), tuple(hands)


def wrong_making(text):
    """The first row that can't stand in a making's text, None where all is right."""
    for at, row in enumerate(text.split("\n") if text else ()):
        if row == "-":
            continue
        keys = [is_part(word) for word in row.split(" ")]
        if None in keys or keys != sorted(set(keys)):
            return at
    return None


class Texts(unittest.TestCase):
    def refused(self, read, text, row):
        before = repr(text)
        with self.assertRaises(NoText) as caught:
            read(text)
        self.assertTrue(same_kind(caught.exception.row, row), (text, caught.exception.row, row))
        self.assertEqual(repr(text), before)

    def check(self, read, show, text, row):
        """The text is refused at this row, or else read and shown again."""
        if row is not None:
            self.refused(read, text, row)
        else:
            self.assertEqual(show(read(text)), text)

    def test_no_texts(self):
        for thing in NO_TEXTS:
            for read in (read_file, read_wishes, read_making, read_house):
                self.refused(read, thing, 0)

    def test_by_names(self):
        self.assertEqual(read_file(text="1 2"), (1, 2))
        self.assertEqual(read_wishes(text="1 -"), (1, None))
        self.assertEqual(read_making(text="1:-:2"), (((1, (), 2),),))
        self.assertEqual(read_house(text="house 1 0 2 0\naway -"), House(1, 0, 2))
        self.assertEqual(show_file(file=(1, 2)), "1 2")
        self.assertEqual(show_wishes(wishes=(1, None)), "1 -")
        self.assertEqual(show_making(making=(((1, (), 2),),)), "1:-:2")
        self.assertEqual(show_house(house=House(1, 0, 2)), "house 1 0 2 0\naway -")


class Files(Texts):
    def test_there_and_back(self):
        source = drawn("file texts")
        for p in PRIMES:
            for many in (1, 2, 15, 20, 60, 2000):
                file = drawn_file(source, p, many)
                text = show_file(file)
                self.assertEqual(text, " ".join(str(number) for number in file))
                self.assertTrue(same_kind(read_file(text), file))

    def test_by_form_alone(self):
        self.assertEqual(read_file("0"), (0,))
        self.assertEqual(read_file("999999999 0 100000000"), (999999999, 0, 100000000))
        for text, row in (("", 0), ("-", 0), ("1 -", 0), ("1  2", 0), (" 1", 0), ("1 ", 0), ("01", 0), ("00", 0),
                          ("1000000000", 0), ("+1", 0), ("1\n", 1), ("1\n2", 1), ("1\nx", 1), ("x\n1", 0), ("\n1", 0),
                          ("\n", 0), ("1\n2\n3", 1), ("1\t2", 0), ("1\r\n2", 0), ("\u0661", 0), ("1_0", 0), ("-0", 0)):
            self.refused(read_file, text, row)

    def test_spoilt(self):
        for file in ((0,), (7, 0, 12), (999999936, 1, 10)):
            for text in spoilt_text(show_file(file)):
                self.check(read_file, show_file, text, wrong_row(text, NUMBER))


class Wishes(Texts):
    def test_there_and_back(self):
        for wishes in few_wishes(6):
            text = show_wishes(wishes)
            self.assertEqual(text, " ".join("-" if wish is None else str(wish) for wish in wishes))
            self.assertTrue(same_kind(read_wishes(text), wishes))
        sixty = (None, 999999, 0) * 20
        self.assertTrue(same_kind(read_wishes(show_wishes(sixty)), sixty))

    def test_by_form_alone(self):
        self.assertEqual(read_wishes("-"), (None,))
        self.assertEqual(read_wishes("999999999 - 0"), (999999999, None, 0))
        for text, row in (("", 0), ("--", 0), ("- ", 0), ("-1", 0), ("- -\n", 1), ("-\n-", 1), ("x\n-", 0), ("\n-", 0),
                          ("1000000000", 0), ("00", 0), ("None", 0)):
            self.refused(read_wishes, text, row)

    def test_spoilt(self):
        for wishes in ((None,), (0,), (3, None, 12), (None, None, 999999)):
            for text in spoilt_text(show_wishes(wishes)):
                self.check(read_wishes, show_wishes, text, wrong_row(text, "(-|%s)" % NUMBER))


class Makings(Texts):
    def test_there_and_back(self):
        source = drawn("making texts")
        for wishes in few_wishes(5):
            for t in range(len(wishes) + 1):
                p = source.choice(PRIMES)
                for making in source.sample(list(makings(source, p, t, wishes)), 3):
                    text = show_making(making)
                    rows = []
                    for sum_ in making:
                        words = [
                            "%d:%s:%d" % (number, ",".join(map(str, lot)) or "-", many) for number, lot, many in sum_
                        ]
                        rows.append(" ".join(words) or "-")
                    self.assertEqual(text, "\n".join(rows))
                    self.assertTrue(same_kind(read_making(text), making))

    def test_by_form_alone(self):
        self.assertEqual(show_making(()), "")
        self.assertTrue(same_kind(read_making(""), ()))
        self.assertTrue(same_kind(read_making("-"), ((),)))
        self.assertTrue(same_kind(read_making("-\n-"), ((), ())))
        # Lots of unlike sizes, hands and numbers of any size stand there by their form.
        self.assertTrue(same_kind(
            read_making("3:-:1 3:0:2 3:0,999999999:5\n-\n999999999:7:999999999"),
            (((3, (), 1), (3, (0,), 2), (3, (0, 999999999), 5)), (), ((999999999, (7,), 999999999),)),
        ))
        for text, row in (
            ("\n", 0), ("-\n", 1), ("\n-", 0), ("- -", 0), ("1:0:0", 0), ("1:0:1 1:0:1", 0), ("1:0:1 1:0:2", 0),
            ("1:1:1 1:0:1", 0), ("2:0:1 1:0:1", 0), ("1:1,0:1", 0), ("1:0,0:1", 0), ("1:0,:1", 0), ("1::1", 0),
            ("1:0", 0), ("1:0:1:1", 0), ("-:0:1", 0), ("1:0:-", 0), ("-\n-\n1:0:0\nx", 2), ("1:0:1 ", 0), ("1:-,-:1", 0),
            ("1:-:1 1:-:2", 0), ("01:0:1", 0), ("1:00:1", 0), ("1:0:01", 0), ("1:1234567890:1", 0), ("x\n-", 0),
            ("1:0:1 -", 0), ("1:1,10,2:1", 0),
        ):
            self.assertEqual(wrong_making(text), row)
            self.refused(read_making, text, row)
        # 10 is above 2, as numbers go.
        self.assertEqual(read_making("1:2,10:1 2:0:1 10:0:1")[0][0], (1, (2, 10), 1))

    def test_spoilt(self):
        for making in (
            (), ((),), (((3, (), 1),),), (((0, (0, 2), 5), (0, (1, 2), 1), (12, (0, 1), 6)), (), ((7, (1, 2), 1),)),
        ):
            for text in spoilt_text(show_making(making)):
                self.check(read_making, show_making, text, wrong_making(text))


def some_house(source, hands, t, p, many):
    """A house behind many deeds, and the same written out."""
    house, plain = House(hands, t, p), Plain(hands, t, p)
    for _ in range(many):
        deed, handed, more = drawn_deed(source, plain)
        try:
            getattr(plain, deed)(*handed, **more)
        except (ValueError, LookupError):
            continue
        getattr(house, deed)(*handed, **more)
    return house, plain


class Houses(Texts):
    def test_there_and_back_and_on(self):
        source = drawn("house texts")
        for hands in range(1, 7):
            for t in range(hands + 1):
                for p in source.sample(SOME_PRIMES, 2):
                    house, plain = some_house(source, hands, t, p, source.randrange(50))
                    text = show_house(house)
                    self.assertEqual(text, plain.text())
                    self.assertIsNone(first_wrong(text))
                    again = read_house(text)
                    self.assertIs(type(again), House)
                    self.assertEqual(show_house(again), text)
                    self.assertEqual(again, house)
                    self.assertEqual(everything(again, True), everything(house, True))
                    self.go_on_alike(source, again, house, plain)

    def go_on_alike(self, source, again, house, plain):
        for _ in range(12):
            deed, handed, more = drawn_deed(source, plain)
            told = []
            for one in (again, house, plain):
                try:
                    told.append(repr(getattr(one, deed)(*handed, **more)))
                except (ValueError, LookupError) as error:
                    told.append((type(error), repr(vars(error))))
            self.assertEqual(told[0], told[1])
            self.assertEqual(told[0], told[2])
        self.assertEqual(show_house(again), show_house(house))
        self.assertEqual(everything(again, True), everything(house, True))

    def test_numbers_of_new_files_go_on(self):
        house = read_house("house 2 1 5 7\nfile 3 1 2\naway 1")
        self.assertEqual((house.files(), len(house)), ((3,), 1))
        self.assertEqual(house.bring((0, 0)), 7)
        self.assertIs(house.home(1), True)
        self.assertEqual(show_house(house), "house 2 1 5 8\nfile 3 1 2\nfile 7 0 0\naway -")

    def spoil(self, text, signs):
        for other in spoilt_text(text, signs):
            row = first_wrong(other)
            self.check(read_house, show_house, other, row)

    def test_spoilt_at_any_place(self):
        source = drawn("spoilt houses")
        for hands, t, p in ((1, 0, 2), (2, 1, 13), (3, 1, 5), (3, 2, 29), (3, 3, 7), (4, 1, 101)):
            house, plain = some_house(source, hands, t, p, 0)
            self.spoil(show_house(house), SIGNS)
            for _ in range(2):
                house, plain = some_house(source, hands, t, p, 30)
                self.spoil(show_house(house), source.sample(SIGNS, 6))

    def test_a_long_one_spoilt(self):
        source = drawn("long house")
        house, plain = some_house(source, 6, 2, 101, 60)
        self.spoil(show_house(house), ("1", " ", "\n"))

    def test_rows_of_a_day(self):
        head = "house 3 1 5 4\nfile 1 1 2 3\nfile 3 4 0 1\naway 0 2"
        right = head + "\nday\nspares 2\nwishes 1 - 3\nof 1 1 2 3\nof 3 4 0 1\nheard 0 4\nheard 1 -\nheard 2 4"
        self.check(read_house, show_house, head, None)
        self.check(read_house, show_house, right, None)
        for ahead, after, row in (
            ("house 3", "house 7", 0), ("house 3", "house 0", 0), ("house 3 1", "house 3 4", 0), ("1 5 4", "1 4 4", 0),
            ("1 5 4", "1 1 4", 0), ("1 5 4", "1 5", 0), ("1 5 4", "1 5 4 4", 0), ("1 5 4", "1 5 -", 0),
            ("1 5 4", "1 5 3", 2), ("1 5 4", "1 5 1", 1), ("1 5 4", "1 5 1000000", None), ("1 5 4", "1 5 1000001", 0),
            ("1 5 4", "1 3 4", 1), ("1 5 4", "1 2 4", 1), ("1 5 4", "1 7 4", None), ("house", "House", 0),
            ("file 1 1 2 3", "file 1 1 2", 1), ("file 1 1 2 3", "file 1 1 2 3 4", 1), ("file 1 1 2 3", "file 1 1 2 5", 1),
            ("file 1 1 2 3", "file 1 1 2 -", 1), ("file 1 1 2 3", "file 4 1 2 3", 1), ("file 1 1", "file - 1", 1),
            ("file 3 4", "file 1 4", 2), ("file 3 4", "file 0 4", 2), ("file 3 4", "file 2 4", 6),
            ("file 1 1 2 3", "file", 1), ("file 1 1 2 3\n", "", 5), ("file 3 4 0 1", "away -", 3),
            ("away 0 2", "away 2 0", 3), ("away 0 2", "away 0 0", 3), ("away 0 2", "away 0 3", 3),
            ("away 0 2", "away", 3), ("away 0 2", "away ", 3), ("away 0 2", "away -", None), ("away 0 2", "away - -", 3),
            ("away 0 2", "away 0 -", 3), ("away 0 2", "away 0 1 2", None), ("away 0 2\n", "", 3),
            ("\nday", "\nnight", None), ("\nday", "\nDay", 4), ("\nday", "\nday 1", 4), ("\nday", "\nday ", 4),
            ("\nday", "", 4), ("spares 2", "spares 3", 6), ("spares 2", "spares 1", None), ("spares 2", "spares 0", None),
            ("spares 2", "spares 1001", 5), ("spares 2", "spares 1000", 6), ("spares 2", "spares", 5),
            ("spares 2", "spares -", 5), ("spares 2", "spares 2 2", 5), ("spares 2\n", "", 5),
            ("wishes 1 - 3", "wishes 1 3", 6), ("wishes 1 - 3", "wishes 1 - 3 -", 6), ("wishes 1 - 3", "wishes 1 - 2", 6),
            ("wishes 1 - 3", "wishes 1 - 4", 6), ("wishes 1 - 3", "wishes 3 - 1", None),
            ("wishes 1 - 3", "wishes 1 - 1", 8), ("wishes 1 - 3", "wishes 3 - 3", 7), ("wishes 1 - 3", "wishes - - -", 7),
            ("wishes 1 - 3", "wishes 1 3", 6), ("wishes 1 - 3", "wishes", 6), ("wishes 1 - 3\n", "", 6),
            ("of 1 1 2 3", "of 1 1 2 4", None), ("of 1 1 2 3", "of 1 1 2 5", 7), ("of 1 1 2 3", "of 3 1 2 3", 7),
            ("of 1 1 2 3\n", "", 7), ("of 3 4 0 1\n", "", 8), ("of 3 4 0 1", "of 3 4 0 1\nof 3 4 0 1", 9),
            ("heard 0 4", "heard 0 3", None), ("heard 0 4", "heard 0 5", 9), ("heard 0 4", "heard 0", 10),
            ("heard 0 4", "heard 0 -", None), ("heard 0 4", "heard 0 4 4", 10), ("heard 0 4", "heard 1 4", 9),
            ("heard 0 4", "heard - 4", 9), ("heard 0 4", "heard", 9), ("heard 0 4", "heard 0 ", 9),
            ("heard 1 -", "heard 1", 10), ("heard 1 -", "heard 1 - -", 10), ("heard 1 -", "heard 2 -", 10),
            ("heard 0 4\n", "", 9), ("heard 1 -\n", "", 10), ("\nheard 2 4", "", 11), ("heard 2 4", "heard 2 4\n", 12),
            ("heard 2 4", "heard 2 4\nheard 3 4", 12), ("heard 2 4", "heard 2 4\naway -", 12),
            ("heard 0 4\nheard 1 -\nheard 2 4", "heard 0\nheard 1\nheard 2", None),
            ("heard 0 4\nheard 1 -\nheard 2 4", "heard 0 1 1 1 1 1\nheard 1 - - - - -\nheard 2 0 0 0 0 0", None),
            ("heard 0 4\nheard 1 -\nheard 2 4", "heard 0 1 1 1 1 1 1\nheard 1 - - - - - -\nheard 2 0 0 0 0 0 0", 9),
        ):
            self.assertIn(ahead, right)
            text = right.replace(ahead, after, 1)
            self.assertEqual(first_wrong(text), row, (ahead, after))
            self.check(read_house, show_house, text, row)

    def test_by_night_the_files_may_be_gone(self):
        text = "house 2 0 7 9\naway -\nnight\nspares 0\nwishes 8 -\nof 8 6\nheard 0 6\nheard 1 -"
        self.check(read_house, show_house, text, None)
        house = read_house(text)
        self.assertEqual((house.pieces(0), house.knows(0), house.heard(1)), ((6,), True, (None,)))
        self.check(read_house, show_house, text.replace("night", "day"), 4)
        self.check(read_house, show_house, text.replace("wishes 8", "wishes 9").replace("of 8", "of 9"), 4)

    def test_rows_lack(self):
        text = "house 2 1 7 1\nfile 0 1 2\naway -\nday\nspares 1\nwishes 0 0\nof 0 1 2\nheard 0 1\nheard 1 -"
        rows = text.split("\n")
        self.check(read_house, show_house, text, None)
        for many in range(1, len(rows)):
            short = "\n".join(rows[:many])
            if many == 3:
                self.check(read_house, show_house, short, None)
            else:
                self.refused(read_house, short, many)
        self.refused(read_house, "", 0)
        self.refused(read_house, "\n", 0)

    def test_cries_and_spares_as_many_as_p(self):
        for p, most in ((5, 2), (7, 4), (3, 0), (2, 0)):
            text = "house 3 1 %d 2\nfile 0 1 1 1\nfile 1 0 0 0\naway -\nday\nspares %d\nwishes 0 1 -\nof 0 1 1 1\n" \
                   "of 1 0 0 0\nheard 0\nheard 1\nheard 2"
            for spares in range(9):
                self.check(read_house, show_house, text % (p, spares), 6 if spares > most else None)

    def test_texts_that_no_deeds_lead_to_are_read_and_shown_so_again(self):
        for text in (
            "house 2 1 7 1\nfile 0 1 2\naway -\nday\nspares 5\nwishes 0 -\nof 0 6 6\nheard 0 1 2 3 4\nheard 1 6 - 5 0",
            "house 1 0 2 1\naway 0\nnight\nspares 1\nwishes 0\nof 0 0\nheard 0 1 1",
            "house 2 1 7 1\naway -\nnight\nspares 7\nwishes - -\nheard 0 1 2 3 4 5 6 0\nheard 1 - - - - - - -",
        ):
            self.assertIsNone(first_wrong(text))
            self.assertEqual(show_house(read_house(text)), text)
            self.assertEqual(show_house(read_house(text).copy()), text)
            self.assertEqual(read_house(text), read_house(text))


if __name__ == "__main__":
    unittest.main()
