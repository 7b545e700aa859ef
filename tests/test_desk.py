import inspect
import itertools
import re
import unittest

from lackcry.desk import Desk
from lackcry.errors import (
    BadFile, BadWishes, ByDay, ByNight, NoFile, NoHand, NoLine, NoLot, NoNumber, NoSpares, NoText, NoWish, Over,
)
from lackcry.house import House
from lackcry.making import made_at
from lackcry.showing import show_file, show_house, show_wishes
from tests.helpers import drawn, drawn_file, drawn_wishes, led_lots
from tests.plain import NUMBER, Plain, first_wrong, outcome
from tests.test_house import SOME_PRIMES, drawn_deed
from tests.test_texts import NO_TEXTS, SIGNS, spoilt_text

FORMS = (
    "bring( N)+", "drop N", "day N( W)+", "call", "lose", "away N", "home N", "night", "files", "shelf N N", "heard N",
    "pieces N", "knows N", "made", "cry N", "brings N L", "text",
)
QUESTIONS = ("files", "shelf", "heard", "pieces", "knows", "made", "cry", "brings", "text")


def is_line(line):
    """Whether it is a line of the desk by its form."""
    if type(line) is not str:
        return False
    for form in FORMS:
        form = form.replace("L", "(-|N(,N)*)").replace("W", "(-|N)").replace("N", NUMBER)
        if re.fullmatch(form, line):
            return True
    return False


def words(row):
    """A row of numbers as the desk says it."""
    return " ".join("-" if number is None else str(number) for number in row or ()) or "-"


def commas(lot):
    return ",".join(map(str, lot)) or "-"


class PlainDesk:
    """The desk written out, over the house that is written out."""

    def __init__(self, plain):
        self.plain = plain

    def say(self, line):
        if not is_line(line):
            raise NoLine(line)
        word, *rest = line.split(" ")
        if word == "brings":
            return self.brings(int(rest[0]), () if rest[1] == "-" else tuple(map(int, rest[1].split(","))))
        numbers = tuple(None if part == "-" else int(part) for part in rest)
        if word in ("shelf", "made", "cry", "text"):
            return getattr(self, word)(*numbers)
        if word == "bring":
            return str(self.plain.bring(numbers))
        if word == "day":
            self.plain.day(numbers[1:], spares=numbers[0])
            return "done"
        told = getattr(self.plain, word)(*numbers)
        if word in ("drop", "lose"):
            return "done"
        if word in ("away", "home", "knows"):
            return "yes" if told else "no"
        return str(told) if word == "call" else words(told)

    def shelf(self, hand, number):
        for other, pieces in self.plain.shelf(hand):
            if other == number:
                return words(pieces)
        raise NoFile(number)

    def lots(self):
        return [] if self.plain.wishes is None else led_lots(self.plain.t, self.plain.wishes)

    def made(self):
        return "-" if self.plain.wishes is None else str(len(self.lots()))

    def cry(self, number):
        if number >= len(self.lots()):
            raise NoNumber(number)
        return commas(self.lots()[number])

    def brings(self, hand, lot):
        self.plain.hand_only(hand)
        if self.plain.wishes is None or self.plain.wishes[hand] is None:
            raise NoWish(hand)
        if lot not in itertools.combinations(range(self.plain.hands), self.plain.t) or hand in lot:
            raise NoLot(lot)
        whole = tuple(sorted(lot + (hand,)))
        return commas(whole) + " " + (str(self.lots().index(whole)) if whole in self.lots() else "-")

    def text(self):
        return self.plain.text().replace("\n", " | ")


def drawn_number(source, plain):
    return str(source.choice((0, 1, 2, 3, 4, 5, 6, 7, 19, 20, plain.p - 1, plain.p, plain.next, 1000, 1001, 999999999)))


def drawn_lot_word(source, plain):
    hands = list(range(plain.hands + 1))
    lot = source.sample(hands, source.choice((plain.t, plain.t, plain.t, source.randrange(len(hands) + 1))))
    return commas(lot if source.randrange(6) == 0 else sorted(lot))


def drawn_line(source, plain):
    """A line of the desk, mostly one that fits the house as it is."""
    if source.randrange(2):
        deed, handed, more = drawn_deed(source, plain)
        if deed == "bring" and source.randrange(8):
            handed = (drawn_file(source, plain.p, len(plain.lots)),)
        if deed == "day":
            wishes = drawn_wishes(source, plain.hands, plain.files() or (None,))
            return "day %s %s" % (more.get("spares", 0), words(wishes))
        return " ".join([deed] + [words(part) if type(part) is tuple else str(part) for part in handed])
    word = source.choice(QUESTIONS + ("away", "home", "drop", "day"))
    hand = str(source.randrange(plain.hands)) if source.randrange(8) else drawn_number(source, plain)
    if word in ("away", "home", "heard", "pieces", "knows"):
        return word + " " + hand
    if word == "shelf":
        number = str(source.choice(plain.files() or (0,))) if source.randrange(4) else drawn_number(source, plain)
        return "shelf %s %s" % (hand, number)
    if word == "brings":
        return "brings %s %s" % (hand, drawn_lot_word(source, plain))
    if word in ("cry", "drop"):
        return word + " " + drawn_number(source, plain)
    if word == "day":
        wishes = [source.choice((str(number), "-")) for number in range(plain.hands + source.choice((-1, 0, 0, 1)))]
        return " ".join(["day", drawn_number(source, plain)] + (wishes or ["-"]))
    return word


def drawn_spoilt(source, line):
    """The line with one thing otherwise."""
    at = source.randrange(len(line) + 1)
    sign = source.choice(SIGNS)
    return source.choice((line[:at] + sign + line[at:], line[:at] + sign + line[at + 1:], line[:at] + line[at + 1:]))


class ManyLines(unittest.TestCase):
    def go(self, source, hands, t, p, many):
        desk = Desk("house %d %d %d 0\naway -" % (hands, t, p))
        plain = Plain(hands, t, p)
        other = PlainDesk(plain)
        told = set()
        for _ in range(many):
            line = drawn_line(source, plain)
            if source.randrange(15) == 0:
                line = drawn_spoilt(source, line)
            before = desk.say("text")
            answer = outcome(lambda: desk.say(line))
            self.assertEqual(answer, outcome(lambda: other.say(line)), (before, line))
            refused = not answer.startswith("'")
            if refused or line.split(" ")[0] in QUESTIONS:
                self.assertEqual(desk.say("text"), before)
            self.assertEqual(desk.say("text"), other.text())
            told.add((line.split(" ")[0], answer.split(" ")[0] if refused else None))
        return told

    def test_drawn_lines(self):
        source = drawn("lines")
        told = set()
        for hands in range(1, 7):
            for t in range(hands + 1):
                for p in source.sample(SOME_PRIMES, 2):
                    told |= self.go(source, hands, t, p, 120 if hands < 6 else 60)
        for form in FORMS:
            self.assertIn((re.match("[a-z]+", form)[0], None), told)
        for word, names in (
            ("bring", "ByDay BadFile"), ("drop", "ByDay NoFile"), ("day", "ByDay BadWishes NoSpares"),
            ("call", "ByNight Over"), ("lose", "ByNight Over"), ("away", "NoHand"), ("home", "NoHand"),
            ("night", "ByNight"), ("shelf", "NoHand NoFile"), ("heard", "NoHand"), ("pieces", "NoHand"),
            ("knows", "NoHand"), ("cry", "NoNumber"), ("brings", "NoHand NoWish NoLot"),
        ):
            for name in names.split():
                self.assertIn((word, name), told)


class Founded(unittest.TestCase):
    def test_of_the_house_that_the_text_writes(self):
        source = drawn("desks")
        for hands in range(1, 7):
            plain = Plain(hands, source.randrange(hands + 1), source.choice(SOME_PRIMES))
            for _ in range(40):
                deed, handed, more = drawn_deed(source, plain)
                outcome(lambda: getattr(plain, deed)(*handed, **more))
                text = plain.text()
                desk = Desk(text)
                self.assertEqual(desk.say("text"), text.replace("\n", " | "))
                self.assertEqual(Desk(desk.say("text").replace(" | ", "\n")).say("text"), desk.say("text"))

    def test_refused_as_the_reader_does(self):
        def row(text):
            with self.assertRaises(NoText) as caught:
                Desk(text)
            return caught.exception.row

        for thing in NO_TEXTS:
            self.assertEqual(row(thing), 0)
        self.assertEqual(row(""), 0)
        self.assertEqual(row("house 2 1 5 0"), 1)
        text = "house 2 1 7 1\nfile 0 1 2\naway -\nday\nspares 1\nwishes 0 0\nof 0 1 2\nheard 0 1\nheard 1 -"
        for other in spoilt_text(text, ("1", " ", "\n", "-")):
            wrong = first_wrong(other)
            if wrong is None:
                self.assertEqual(Desk(other).say("text"), other.replace("\n", " | "))
            else:
                self.assertEqual(row(other), wrong)

    def test_by_names(self):
        self.assertEqual(Desk(text="house 1 0 2 0\naway -").say(line="text"), "house 1 0 2 0 | away -")
        self.assertIn("say", vars(Desk))
        self.assertEqual(list(inspect.signature(Desk).parameters), ["text"])
        self.assertEqual(list(inspect.signature(Desk.say).parameters), ["self", "line"])

    def test_two_desks_of_one_text(self):
        text = "house 1 0 2 0\naway -"
        one, other = Desk(text), Desk(text)
        one.say("bring 1")
        self.assertEqual((one.say("files"), other.say("files")), ("0", "-"))


class Lines(unittest.TestCase):
    def said(self, desk, rows):
        for line, answer in rows:
            told = desk.say(line)
            self.assertIs(type(told), str)
            self.assertEqual(told, answer, line)

    def test_a_night_and_a_day(self):
        self.said(Desk("house 3 1 7 0\naway -"), (
            ("files", "-"), ("made", "-"), ("heard 0", "-"), ("pieces 0", "-"), ("knows 0", "no"),
            ("bring 1 5 3", "0"), ("bring 0 6 2", "1"), ("bring 4 4 4", "2"), ("drop 1", "done"), ("files", "0 2"),
            ("shelf 0 0", "1 - -"), ("shelf 2 2", "- - 4"), ("made", "-"),
            ("away 1", "yes"), ("away 1", "no"), ("home 1", "yes"), ("home 1", "no"), ("away 1", "yes"),
            ("text", "house 3 1 7 3 | file 0 1 5 3 | file 2 4 4 4 | away 1"),
            ("day 1 0 0 0", "done"), ("made", "2"), ("cry 0", "0,1"), ("cry 1", "0,2"),
            ("brings 0 1", "0,1 0"), ("brings 2 0", "0,2 1"), ("brings 1 2", "1,2 -"),
            ("heard 1", "-"), ("pieces 2", "- - 3"), ("knows 2", "no"),
            ("call", "4"), ("heard 0", "4"), ("heard 1", "-"), ("pieces 0", "1 5 -"), ("pieces 1", "- 5 -"),
            ("home 1", "yes"), ("lose", "done"), ("heard 0", "4 -"), ("heard 1", "- -"),
            ("call", "0"), ("heard 1", "- - 0"), ("pieces 0", "1 5 3"), ("knows 0", "yes"), ("knows 1", "no"),
            ("text", "house 3 1 7 3 | file 0 1 5 3 | file 2 4 4 4 | away - | day | spares 1 | wishes 0 0 0 | of 0 1 5 3 "
                     "| heard 0 4 - 0 | heard 1 - - 0 | heard 2 4 - 0"),
            ("night", "1"), ("made", "2"), ("cry 1", "0,2"), ("brings 1 2", "1,2 -"), ("drop 0", "done"),
            ("files", "2"), ("pieces 2", "1 5 3"), ("day 0 - 2 -", "done"), ("pieces 0", "-"), ("knows 0", "no"),
            ("pieces 1", "- 4 -"), ("made", "2"), ("night", "1"), ("day 7 - - -", "done"), ("made", "0"),
            ("call", "0"), ("night", "-"),
        ))

    def test_lots_of_no_hands_and_several_lacking(self):
        self.said(Desk("house 3 0 11 0\naway -"), (
            ("bring 10", "0"), ("bring 7", "1"), ("day 2 0 1 0", "done"), ("cry 0", "0"), ("cry 1", "1"),
            ("brings 0 -", "0 0"), ("brings 1 -", "1 1"), ("brings 2 -", "2 -"), ("lose", "done"), ("night", "0 1 2"),
        ))
        self.said(Desk("house 2 2 3 0\naway 0 1"), (
            ("bring 2", "0"), ("day 0 0 0", "done"), ("made", "0"), ("pieces 0", "2"), ("knows 1", "yes"), ("night", "-"),
        ))

    def test_against_a_house(self):
        source = drawn("desk and house")
        for hands in range(1, 7):
            t = source.randrange(hands)
            house = House(hands, t, 101)
            desk = Desk(show_house(house))
            size = len(list(itertools.combinations(range(hands), t)))
            for _ in range(3):
                file = drawn_file(source, 101, size)
                self.assertEqual(desk.say("bring " + show_file(file)), str(house.bring(file)))
            wishes = drawn_wishes(source, hands, (0, 1, 2))
            self.assertEqual(desk.say("day 5 " + show_wishes(wishes)), "done")
            house.day(wishes, spares=5)
            for number in range(int(desk.say("made"))):
                self.assertEqual(desk.say("cry %d" % number), commas(made_at(t, wishes, number)))
                self.assertEqual(desk.say("call"), str(house.call()))
            for hand in range(hands):
                self.assertEqual(desk.say("heard %d" % hand), words(house.heard(hand)))
                self.assertEqual(desk.say("pieces %d" % hand), words(house.pieces(hand)))
                self.assertEqual(desk.say("knows %d" % hand), "yes" if house.knows(hand) else "no")
            self.assertEqual(desk.say("night"), words(house.night()))
            self.assertEqual(desk.say("text").replace(" | ", "\n"), show_house(house))


class Refusals(unittest.TestCase):
    def refused(self, desk, line, error, *values):
        before = desk.say("text")
        with self.assertRaises(error) as caught:
            desk.say(line)
        self.assertIs(type(caught.exception), error)
        self.assertEqual(repr(list(vars(caught.exception).values())), repr(list(values)), line)
        self.assertEqual(desk.say("text"), before)

    def night(self):
        return Desk("house 3 1 5 4\nfile 0 1 2 3\nfile 3 4 0 1\naway 1")

    def day(self):
        desk = self.night()
        desk.say("day 1 0 - 3")
        desk.say("call")
        return desk

    def test_of_anything(self):
        for desk in (self.night(), self.day()):
            for thing in NO_TEXTS + (["call"], ("call",), {"call": 1}, b"call"):
                self.refused(desk, thing, NoLine, thing)

    def test_spoilt_lines_by_their_form(self):
        desks = (self.night(), self.day())
        for line in (
            "bring 1 2 3", "drop 10", "day 1 0 - 3", "call", "lose", "away 1", "home 1", "night", "files", "shelf 0 3",
            "heard 2", "pieces 2", "knows 0", "made", "cry 0", "brings 0 1,2", "brings 0 -", "text",
        ):
            self.assertTrue(is_line(line))
            wrong = 0
            for other in spoilt_text(line):
                if not is_line(other):
                    wrong += 1
                    self.refused(desks[wrong % 2], other, NoLine, other)
                else:
                    # Whatever else it is told or refused with, it is a line.
                    self.assertNotIn("NoLine", outcome(lambda: Desk(show_house(self.night().house)).say(other)))
            self.assertGreater(wrong, 20)

    def test_words_too_many_too_few(self):
        for desk in (self.night(), self.day(), Desk("house 1 0 2 0\naway -")):
            for line in (
                "", " ", "bring", "bring -", "bring ", "bring 1 -", "bring 01 2 3", "bring 1234567890", "bring 1  2 3",
                "bring -1 2 3", "bring 1,2,3", "drop", "drop -", "drop 0 0", "drop 00", "day", "day 0", "day - 0 0 0",
                "day 0 ", "day 0 0,0", "day 0 0 0 00", "call 0", "lose -", "away", "away -", "away 0 1", "home",
                "night 0", "files 0", "shelf", "shelf 0", "shelf 0 0 0", "shelf - 0", "shelf 0 -", "heard", "heard -",
                "heard 0 0", "pieces", "knows", "made 0", "cry", "cry -", "cry 0 0", "cry 0,1", "brings", "brings 0",
                "brings - 0", "brings 0 0 0", "brings 0 0,", "brings 0 ,", "brings 0 -,0", "brings 0 0,01", "brings 0 --",
                "brings 0 1234567890", "text 0", "Text", "quit", "copy", "is_day", "say text", "call\n", "\ncall", "call ",
                " call", "call | lose", "heard \u0661", "cry \u00b2",
            ):
                self.refused(desk, line, NoLine, line)

    def test_by_day_then_the_thing(self):
        desk = self.day()
        for line in ("bring 1 2 3", "bring 9", "drop 0", "drop 7", "day 0 0 0 0", "day 2000 7"):
            self.refused(desk, line, ByDay)
        desk = self.night()
        self.refused(desk, "bring 1 2", BadFile, (1, 2))
        self.refused(desk, "bring 1 2 5", BadFile, (1, 2, 5))
        self.refused(desk, "bring 1 2 3 4", BadFile, (1, 2, 3, 4))
        self.refused(desk, "drop 1", NoFile, 1)
        self.refused(desk, "drop 4", NoFile, 4)
        self.refused(desk, "day 0 0 1 0", BadWishes, (0, 1, 0))
        self.refused(desk, "day 9999 - -", BadWishes, (None, None))
        self.refused(desk, "day 1001 - - -", NoSpares, 1001)
        self.refused(desk, "day 6 - - -", NoSpares, 6)
        self.refused(desk, "day 3 0 - 3", NoSpares, 3)
        self.assertEqual(desk.say("day 2 0 - 3"), "done")

    def test_by_night_and_over(self):
        for line in ("call", "lose", "night"):
            self.refused(self.night(), line, ByNight)
        desk = self.day()
        for _ in range(3):
            desk.say("lose")
        self.refused(desk, "call", Over)
        self.refused(desk, "lose", Over)
        desk.say("night")
        for line in ("call", "lose", "night"):
            self.refused(desk, line, ByNight)

    def test_no_hand(self):
        for desk in (self.night(), self.day()):
            for word in ("away", "home", "heard", "pieces", "knows"):
                self.refused(desk, word + " 3", NoHand, 3)
                self.refused(desk, word + " 999999999", NoHand, 999999999)

    def test_shelf(self):
        for desk in (self.night(), self.day()):
            self.refused(desk, "shelf 3 7", NoHand, 3)
            self.refused(desk, "shelf 3 0", NoHand, 3)
            self.refused(desk, "shelf 2 7", NoFile, 7)
            self.refused(desk, "shelf 2 1", NoFile, 1)

    def test_cry(self):
        desk = self.night()
        self.refused(desk, "cry 0", NoNumber, 0)
        self.refused(desk, "cry 77", NoNumber, 77)
        desk = self.day()
        self.assertEqual([desk.say("cry %d" % number) for number in range(3)], ["0,1", "0,2", "1,2"])
        # Spares have no lots.
        self.refused(desk, "cry 3", NoNumber, 3)
        desk.say("night")
        self.assertEqual(desk.say("cry 2"), "1,2")
        self.refused(desk, "cry 3", NoNumber, 3)

    def test_brings(self):
        desk = self.night()
        self.refused(desk, "brings 3 0", NoHand, 3)
        self.refused(desk, "brings 3 9,9", NoHand, 3)
        self.refused(desk, "brings 0 1", NoWish, 0)
        self.refused(desk, "brings 0 9,9", NoWish, 0)
        for desk in (self.day(), self.day()):
            self.refused(desk, "brings 3 9,9", NoHand, 3)
            self.refused(desk, "brings 1 9,9", NoWish, 1)
            self.refused(desk, "brings 1 0", NoWish, 1)
            for lot in ((), (0,), (3,), (1, 2), (2, 1), (1, 1), (999999999,)):
                self.refused(desk, "brings 0 " + commas(lot), NoLot, lot)
            self.assertEqual(desk.say("brings 0 2"), "0,2 1")
            desk.say("night")
            self.assertEqual(desk.say("brings 2 1"), "1,2 2")
        desk = Desk("house 4 2 5 1\nfile 0 1 1 1 1 1 1\naway -")
        desk.say("day 0 0 0 0 0")
        for lot in ((3, 1), (1, 1), (0, 1), (1, 4), (1,), (1, 2, 3), ()):
            self.refused(desk, "brings 0 " + commas(lot), NoLot, lot)
        self.assertEqual(desk.say("brings 3 1,2"), "1,2,3 -")
        self.assertEqual(desk.say("brings 3 0,2"), "0,2,3 2")


if __name__ == "__main__":
    unittest.main()
