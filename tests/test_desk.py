"""The desk ([30], and what [2], [3], [4] say of it)."""

import copy
import random
import unittest

from askback.apart import parts
from askback.asking import asked
from askback.desk import Desk
from askback.errors import NoAsk, NoEntry, NoName, SameMoment
from askback.house import House
from askback.lore import Lore
from tests.plain import FAR, far_numbers, far_sayings, great_houses, small_houses

# What begins a lore, tells it a row, and leaves it one that can be asked.
LORE_ROWS = ["lore 3", "1 ann sees 9 at most 4", "2 bob sees 14 at most 2", "5 carl sees 40 at least 14"]

GOOD_ROWS = LORE_ROWS + [
    "house ann 3 by 2 3", "said ann 6", "times ann 3", "last ann 3", "parts ann ann", "asks ann 7", "reaches",
    "reaches at 4", "may 9", "may 9 at 4", "bar", "bar at 1", "7 bob is left", "8 bob is trusted", "drop 2",
]

NO_TEXTS = [None, True, False, 0, 1, 10 ** 200, [], ["bar"], (), ("bar",), {}, {"bar": 1}, [["may", 9]], [None]]

NO_NUMBERS = ["", "x", "-1", "+1", "1.0", "01", "00", "1e3", "0x1", "1_0", "one", "1" * 201, "\u0661", "1\n", "1,",
              "1 1"]

NO_WORDS = ["", "abcdefghijklm", "Ann", "ann1", "an-n", "a_b", "1", "\u00e4nn", "ann\n", "ann\t", "ann.", "ANN"]

# Rows with a number, and rows with a word, left open.
NUMBER_ROWS = """said ann {}; times ann {}; last ann {}; asks ann {}; may {}; may 9 at {}; reaches at {}; bar at {}
drop {}; house h {} by 1; house h 2 by {}; house h 3 by 1 {}; lore {}; {} ann is left; {} ann sees 1 at most 1
9 ann sees {} at most 1; 9 ann sees 1 at least {}""".replace("\n", "; ").split("; ")

NAME_ROWS = """house {} 3 by 2 3; said {} 1; times {} 1; last {} 1; asks {} 1; parts ann {}; parts {} ann
9 {} is left; 9 {} is trusted; 9 {} sees 1 at most 1""".replace("\n", "; ").split("; ")

# What writes no house and no lore, and what else is no row.
NO_HOUSE_ROWS = """house h 3 by 1; house h 3 by 1 1 1; house h 3 by; house h 3; house h; house; house 3 by 2 3
house h 3 in 2 3; house h 3 by 2 0; house h 2 by by; house h 3 2 3; house h k 3 by 2 3; House h 3 by 2 3
house h 3 By 2 3; lore; lore 3 3; lore three; Lore 3; house lore 3""".replace("\n", "; ").split("; ")

OTHER_ROWS = """ok; none; x; 9; 9 ann; 9 ann is; 9 ann is lost; 9 ann is left now; 9 ann sees; 9 ann sees 1 at most
9 ann sees 1 at about 1; 9 ann saw 1 at most 1; 9 ann sees at most 1; 9 ann sees 1 at most 1 at 3; 9 ann is left at 3
ann is left; drop; drop 1 2; drop ann; drop 1 at 1; at 1; reaches 1; bar 1; may; may ann; may 1 2; reaches at; bar at
may at 1; may 9 at; said; said ann; said 1; said 1 ann; said ann 1 at 1; parts ann; parts ann 1; parts ann ann ann
asks ann; times 3; turns; freed; entries""".replace("\n", "; ").split("; ")


def text_of(number):
    """The number with all its figures, however many."""
    if number < 0:
        return "-" + text_of(-number)
    figures = ""
    while number >= 10 ** 900:
        number, rest = divmod(number, 10 ** 900)
        figures = str(rest).zfill(900) + figures
    return str(number) + figures


def house_row(name, house):
    return f"house {name} {house.base()} by {' '.join(text_of(many) for many in house.beginning())}"


def told_desk(rows):
    desk = Desk()
    for row in rows:
        desk.say(row)
    return desk


class HouseTest(unittest.TestCase):
    def test_asks_of_houses(self):
        chance = random.Random(301)
        desk = Desk()
        for house in [house for house, _, _ in small_houses()] + great_houses():
            self.assertEqual(desk.say(house_row("h", house)), "ok")
            for place in [1, 2, 3, house.folk(), house.folk() + 1] + chance.sample(far_numbers(), 2):
                if place > FAR:
                    continue
                self.assertEqual(desk.say(f"said h {place}"), text_of(house.said(place)))
                self.assertEqual(desk.say(f"times h {place}"), text_of(house.times(place)))
                self.assertEqual(desk.say(f"last h {place}"), text_of(house.last_place(place)))
                places = asked(house, place)
                told = "none" if places is None else " ".join([text_of(one) for one in places])
                self.assertEqual(desk.say(f"asks h {place}"), told)

    def test_places_below_0_and_none(self):
        desk = told_desk(["house h 3 by 1 9"])
        self.assertEqual(desk.say("asks h 10"), "none")
        self.assertEqual(desk.say("asks h 11"), "1 0 -1")
        self.assertEqual(desk.say("asks h 12"), "1 1 0")
        desk.say(f"house h 3 by 1 {FAR}")
        self.assertEqual(desk.say("asks h 7"), "none")

    def test_numbers_of_more_than_two_hundred_figures(self):
        desk = told_desk([f"house h 30 by {' '.join([str(FAR)] * 29)}"])
        house = House(30, [FAR] * 29)
        for number in (FAR, 30 ** 130, 7):
            told = desk.say(f"last h {number}")
            self.assertEqual(int(told), house.last_place(number))
        self.assertGreater(len(desk.say(f"last h {FAR}")), 200)

    def test_houses_part(self):
        desk = Desk()
        rows = [("a", House(3, [2, 3])), ("b", House(3, [2, 4])), ("c", House(2, [1])), ("d", House(3, [2, 3])),
                ("e", House(30, [FAR] * 29))]
        for name, house in rows:
            desk.say(house_row(name, house))
        for name, house in rows:
            for other_name, other in rows:
                place = parts(house, other)
                self.assertEqual(desk.say(f"parts {name} {other_name}"), "alike" if place is None else text_of(place))
        self.assertEqual(desk.say("parts a d"), "alike")

    def test_named_anew(self):
        desk = told_desk(["house ann 3 by 2 3"])
        self.assertEqual(desk.say("last ann 2"), "5")
        self.assertEqual(desk.say("house ann 3 by 2 9"), "ok")
        self.assertEqual(desk.say("last ann 2"), "11")
        self.assertEqual(desk.say("house ann 2 by 1"), "ok")
        self.assertEqual(desk.say("last ann 2"), "3")

    def test_names_of_all_sorts(self):
        desk = Desk()
        for name in ("a", "abcdefghijkl", "house", "lore", "by", "at", "said", "drop", "none", "ok"):
            self.assertEqual(desk.say(f"house {name} 2 by 7"), "ok")
            self.assertEqual(desk.say(f"last {name} 1"), "7")
            self.assertEqual(desk.say(f"parts {name} a"), "alike")


class LoreTest(unittest.TestCase):
    def test_a_lore_and_its_asks(self):
        desk = Desk()
        self.assertEqual([desk.say(row) for row in LORE_ROWS], ["ok"] * 4)
        for row, told in (("reaches", "none"), ("reaches at 4", "12 on"), ("reaches at 1", "2 on"), ("bar", "bob carl"),
                          ("reaches at 0", "0 on"), ("bar at 4", "none"), ("bar at 5", "bob carl"), ("may 9", "none"),
                          ("may 9 at 4", "1 2"), ("may 9 at 0", "1 7"), ("may 1 at 1", "1 1"), ("drop 2", "ok"),
                          ("reaches", "2 10"), ("bar", "none"), ("may 9", "2 4"), ("2 bob is left", "ok"),
                          ("3 bob sees 14 at most 2", "ok"), ("reaches", "2 10"), ("4 bob is trusted", "ok"),
                          ("bar", "bob carl"), ("may 9", "none"), ("reaches at 3", "2 on")):
            self.assertEqual(desk.say(row), told, row)

    def test_against_a_lore(self):
        chance = random.Random(302)
        tellers = ["ann", "bob", "carl", "dora"]
        for house in great_houses() + [House(2, [5]), House(3, [2, 3])]:
            desk, lore = told_desk([f"lore {house.base()}"]), Lore(house.base())
            for saying in far_sayings(house, chance, 20, 10 ** 60) + [("at least", 9, 9), ("at most", 10 ** 9, 3)]:
                moment, teller = chance.randrange(40), chance.choice(tellers)
                word, place, number = saying
                if moment in [entry[0] for entry in lore.entries()]:
                    self.refused_as(SameMoment, "moment", moment, desk, f"{moment} {teller} is left")
                    continue
                told = chance.choice([f"{teller} is left",
                                      f"{teller} is trusted"] + [f"{teller} sees {place} {word} {number}"] * 4)
                self.assertEqual(desk.say(f"{moment} {told}"), "ok")
                if "sees" in told:
                    lore.sees(moment, teller, saying)
                else:
                    (lore.leaves if "left" in told else lore.trusts)(moment, teller)
                if chance.random() < 0.1:
                    self.assertEqual(desk.say(f"drop {moment}"), "ok")
                    lore.drop(moment)
                if chance.random() < 0.2:
                    self.tells_as(desk, lore, chance)

    def tells_as(self, desk, lore, chance):
        place = chance.choice([1, 9, 10 ** 60, FAR])
        for upto, at in ((None, ""), (chance.randrange(45), None)):
            at = f" at {upto}" if at is None else at
            ends = lore.reaches(upto=upto)
            self.assertEqual(desk.say("reaches" + at), self.ends_told(ends))
            ends = ends and lore.may_be(place, upto=upto)
            self.assertEqual(desk.say(f"may {place}" + at), self.ends_told(ends))
            tellers = lore.barred_by(upto=upto)
            self.assertEqual(desk.say("bar" + at), "none" if tellers is None else " ".join(tellers))

    def ends_told(self, ends):
        if ends is None:
            return "none"
        return text_of(ends[0]) + " " + ("on" if ends[1] is None else text_of(ends[1]))

    def refused_as(self, error, field, worth, desk, row):
        with self.assertRaises(error) as caught:
            desk.say(row)
        self.assertIs(type(caught.exception), error)
        self.assertEqual(getattr(caught.exception, field), worth)

    def test_begun_anew(self):
        desk = told_desk(LORE_ROWS + ["house ann 3 by 2 3"])
        self.assertEqual(desk.say("reaches"), "none")
        self.assertEqual(desk.say("lore 3"), "ok")
        self.assertEqual(desk.say("reaches"), "0 on")
        self.refused_as(NoEntry, "moment", 1, desk, "drop 1")
        self.assertEqual(desk.say("1 ann sees 9 at most 4"), "ok")
        self.assertEqual(desk.say("lore 4"), "ok")
        self.assertEqual(desk.say("may 4"), "1 4")
        self.assertEqual(desk.say("said ann 6"), "3")

    def test_same_moment_and_no_entry(self):
        desk = told_desk(LORE_ROWS)
        for row in ("1 zoe is left", "2 bob sees 1 at most 1", "5 carl is trusted"):
            self.refused_as(SameMoment, "moment", int(row.split()[0]), desk, row)
        for moment in (0, 3, 4, 6, FAR):
            self.refused_as(NoEntry, "moment", moment, desk, f"drop {moment}")
        desk.say("drop 5")
        self.refused_as(NoEntry, "moment", 5, desk, "drop 5")
        self.assertEqual(desk.say("5 carl is left"), "ok")

    def test_two_desks_apart(self):
        one, other = told_desk(LORE_ROWS + ["house ann 3 by 2 3"]), Desk()
        self.assertRaises(NoName, other.say, "said ann 1")
        self.assertRaises(NoAsk, other.say, "reaches")
        other.say("lore 2")
        other.say("house ann 2 by 4")
        self.assertEqual((one.say("bar"), other.say("bar")), ("bob carl", "none"))
        self.assertEqual((one.say("last ann 1"), other.say("last ann 1")), ("2", "4"))

    def test_far(self):
        desk = told_desk(["lore 2", f"1 ann sees {FAR} at most 1", f"{FAR} bob sees {FAR} at least 1"])
        self.assertEqual(desk.say("reaches"), f"{FAR - 1} on")
        self.assertEqual(desk.say(f"may {FAR} at {FAR}"), "1 1")
        self.assertEqual(desk.say(f"may {FAR} at 0"), f"1 {House(2, [1]).said(FAR)}")
        self.assertEqual(desk.say(f"drop {FAR}"), "ok")


class RefusalTest(unittest.TestCase):
    def no_ask(self, row, desk):
        handed = copy.deepcopy(row)
        with self.assertRaises(NoAsk) as caught:
            desk.say(row)
        self.assertIs(type(caught.exception), NoAsk)
        self.assertEqual(caught.exception.row, handed)
        self.assertIs(type(caught.exception.row), type(handed))

    def full_desk(self):
        return told_desk(LORE_ROWS + ["house ann 3 by 2 3"])

    def test_good_rows_with_one_thing_otherwise(self):
        desk = self.full_desk()
        for row in GOOD_ROWS:
            ends = [" ", "\n", "\t", ".", " 1 1", " x", " at", " at x", " at 01", " at -1", " at 1 at 1", " at  1",
                    " at " + "1" * 201, "at 1"]
            wrongs = [row + end for end in ends] + [ahead + row for ahead in (" ", "\n", "x", "x ")] + [row.upper()]
            if row.split()[0] not in ("reaches", "may", "bar"):
                wrongs += [row + " at 1", row + " at 0"]
            if " " in row:
                first, last = row.rsplit(" ", 1)
                wrongs += [row.replace(" ", between, 1) for between in ("  ", "\n", "\t", ",")]
                wrongs += [row.replace(" ", ""), first + "  " + last, " ".join(row.split()[::-1])]
            for wrong in wrongs:
                self.no_ask(wrong, desk)

    def test_a_word_too_few(self):
        desk = self.full_desk()
        for row in GOOD_ROWS + ["said ann 6", "parts ann ann", "asks ann 7"]:
            words = row.split(" ")
            for at in range(len(words)):
                fewer = " ".join(words[:at] + words[at + 1:])
                if fewer not in ("reaches", "bar"):
                    self.no_ask(fewer, desk)

    def test_numbers(self):
        desk = self.full_desk()
        for wrong in NO_NUMBERS:
            for row in NUMBER_ROWS:
                self.no_ask(row.format(wrong), desk)
        for row in ("said ann 0", "times ann 0", "last ann 0", "asks ann 0", "may 0", "may 0 at 1", "house h 2 by 0",
                    "9 ann sees 0 at most 1", "9 ann sees 1 at most 0", "9 ann sees 1 at least 0"):
            self.no_ask(row, desk)
        # A moment may be 0.
        self.assertEqual(desk.say("reaches at 0"), "0 on")
        self.assertEqual(desk.say("0 ann is left"), "ok")
        self.assertEqual(desk.say("drop 0"), "ok")
        self.assertEqual(desk.say("said ann " + "9" * 200), text_of(House(3, [2, 3]).said(FAR)))

    def test_houses_and_k(self):
        desk = self.full_desk()
        for k in ("1", "31", "0", "-2", "100", "2.0", "k", ""):
            self.no_ask(f"lore {k}", desk)
            self.no_ask(f"house h {k} by 1", desk)
            self.no_ask(f"house h {k} by {' '.join(['1'] * 30)}", desk)
        for row in NO_HOUSE_ROWS:
            self.no_ask(row, desk)

    def test_names(self):
        desk = self.full_desk()
        for wrong in NO_WORDS:
            for row in NAME_ROWS:
                self.no_ask(row.format(wrong), desk)

    def test_entries_and_others(self):
        desk = self.full_desk()
        for row in OTHER_ROWS + ["", " "]:
            self.no_ask(row, desk)

    def test_no_text(self):
        for desk in (Desk(), self.full_desk()):
            for row in NO_TEXTS:
                self.no_ask(row, desk)
        row = ["may", [9]]
        with self.assertRaises(NoAsk) as caught:
            Desk().say(row)
        row[1].append(1)
        self.assertEqual(caught.exception.row, ["may", [9]])

    def test_where_there_is_no_lore(self):
        desk = told_desk(["house ann 3 by 2 3"])
        for row in ("1 ann sees 9 at most 4", "1 ann is left", "1 ann is trusted", "drop 1", "reaches", "reaches at 4",
                    "may 9", "may 9 at 4", "bar", "bar at 1"):
            self.no_ask(row, desk)
        desk.say("lore 3")
        self.assertEqual(desk.say("1 ann is left"), "ok")

    def test_no_name(self):
        desk = self.full_desk()
        rows = {"said bob 1": "bob", "times a 1": "a", "last b 1": "b", "asks abcdefghijkl 1": "abcdefghijkl",
                "parts bob ann": "bob", "parts ann bob": "bob", "parts bob carl": "bob", "parts carl bob": "carl",
                "parts bob bob": "bob"}
        for row, name in rows.items():
            with self.assertRaises(NoName) as caught:
                desk.say(row)
            self.assertIs(type(caught.exception), NoName)
            self.assertEqual(caught.exception.name, name)
        # What is no ask at all goes first.
        for row in ("said bob 0", "said bob x", "times bob 01", "parts bob 1", "asks bob"):
            self.no_ask(row, desk)

    def test_what_is_refused_changes_nothing(self):
        desk, same = self.full_desk(), self.full_desk()
        wrongs = ["house ann 3 by 2", "house ann 1 by 2", "lore 1", "lore 31", "1 zoe is left",
                  "1 ann sees 1 at most 9", "drop 3",
                  "6 ann sees 0 at most 1", "said bob 1", "parts ann bob", "lore 3 ", "house ann 2 by 7 ", None,
                  ["lore 3"]]
        for row in wrongs:
            self.assertRaises((NoAsk, NoName, SameMoment, NoEntry), desk.say, row)
            for good in ("last ann 2", "reaches", "reaches at 4", "bar", "may 9 at 4", "may 9", "bar at 3"):
                self.assertEqual(desk.say(good), same.say(good))

    def test_asks_change_nothing(self):
        desk = self.full_desk()
        asks = ["last ann 2", "reaches", "reaches at 4", "bar", "may 9 at 4", "may 9", "bar at 3", "asks ann 9",
                "parts ann ann"]
        told = [desk.say(row) for row in asks]
        self.assertEqual([desk.say(row) for row in asks], told)
        self.assertEqual([desk.say(row) for row in asks[::-1]], told[::-1])
        self.assertTrue(all(type(one) is str for one in told))

    def test_by_name(self):
        desk = Desk()
        self.assertEqual(desk.say(row="house ann 3 by 2 3"), "ok")
        self.assertEqual(desk.say(row="said ann 6"), "3")


if __name__ == "__main__":
    unittest.main()
