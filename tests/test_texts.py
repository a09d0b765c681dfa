"""Texts ([29], and what [2], [3] say of them)."""

import random
import unittest

from askback.errors import BadSaying, SameMoment, Unread
from askback.house import House
from askback.lore import Lore
from askback.texts import read_house, read_lore, read_saying, show_house, show_lore, show_saying
from tests.plain import FAR, NO_LISTS, NO_SAYINGS, great_houses, small_houses

NO_TEXTS = [None, True, False, 0, 7, [], ["1 at most 1"], (), ("at most", 1, 1), {}, {"lore": 3}, ["lore 3"],
            [["lore 3"]], 10 ** 300]

LONG = "1" + "0" * 199
TOO_LONG = "1" + "0" * 200

# What is no number, or is one but isn't written as such.
NO_NUMBERS = ["", "00", "01", "007", "-1", "-0", "+1", "1.0", "1e3", "1_0", "a", "1a", "a1", "0x1", "1,", "\t1", "1\t",
              "\n1", "1\n", "None", "True", "(1)", TOO_LONG, "0" + LONG, "9" * 201, "9" * 5000]

LORE = "lore 3\n0 ann sees 9 at most 4\n3 bob is left\n12 bob is trusted\n40 carl sees 30 at least 7"


class TextsTest(unittest.TestCase):
    def unread(self, read, text, row):
        with self.assertRaises(Unread) as caught:
            read(text)
        told = caught.exception.row
        self.assertEqual(told, row, text)
        self.assertIs(type(told), type(row))

    def unread_whole(self, read, text):
        self.unread(read, text, text)


class HouseTest(TextsTest):
    def test_as_it_is_written(self):
        self.assertEqual(show_house(House(2, [1])), "house 2 by 1")
        self.assertEqual(show_house(House(4, [2, 10, 3])), "house 4 by 2 10 3")
        self.assertEqual(show_house(House(3, [10 ** 64, 10 ** 130 + 7])),
                         "house 3 by 1" + "0" * 64 + " 1" + "0" * 129 + "7")

    def test_what_is_written_is_read_again(self):
        for house in [house for house, _, _ in small_houses()] + great_houses():
            text = show_house(house)
            self.assertIs(type(text), str)
            self.assertEqual(text, "house " + " ".join([str(house.base()), "by"] + [str(m) for m in house.beginning()]))
            self.assertTrue(read_house(text) == house)
            self.assertEqual(show_house(read_house(text)), text)

    def test_of_at_most_two_hundred_figures(self):
        self.assertEqual(read_house("house 2 by " + LONG).beginning(), [10 ** 199])
        self.assertEqual(read_house("house 2 by " + "9" * 200).beginning(), [FAR])
        self.unread_whole(read_house, "house 2 by " + TOO_LONG)

    def test_numbers_that_were_told_are_written_with_all_their_figures(self):
        text = show_house(House(2, [10 ** 5000 + 1]))
        self.assertEqual(text, "house 2 by 1" + "0" * 4999 + "1")
        for figures in (399, 400, 401, 799, 800, 801, 1200):
            for number in (10 ** figures - 1, 10 ** figures, 10 ** figures + 305):
                self.assertEqual(show_house(House(2, [number])), f"house 2 by {number}")

    def test_what_cannot_be_read(self):
        self.assertTrue(read_house("house 3 by 2 7") == House(3, [2, 7]))
        wrong = [" house 3 by 2 7", "house 3 by 2 7 ", "house  3 by 2 7", "house 3  by 2 7", "house 3 by  2 7",
                 "house 3 by 2  7", "house 3 by 2 7\n", "\nhouse 3 by 2 7", "house 3 by 2\n7", "house 3\nby 2 7",
                 "house\t3 by 2 7", "house 3 by 2\t7", "House 3 by 2 7", "houses 3 by 2 7", "home 3 by 2 7",
                 "house 3 By 2 7", "house 3 of 2 7", "house 3 2 7", "3 by 2 7", "house by 2 7", "house 3 by",
                 "house 3 by ", "house 3", "house", "", " ", "\n", "house 3 by 2", "house 3 by 2 7 1",
                 "house 2 by 2 7", "house 4 by 2 7", "house 3 by 0 7", "house 3 by 2 0", "house 1 by 2",
                 "house 1 by", "house 1 by ", "house 0 by 1", "house 31 by" + " 1" * 30, "house 3 by 2,7",
                 "house 3 by [2, 7]", "house 3 by 2 7 #", "lore 3", "2 at most 7", "house 3 by 2 7\nhouse 3 by 2 7"]
        for text in wrong:
            self.unread_whole(read_house, text)
        for word in NO_NUMBERS:
            for text in (f"house {word} by 2 7", f"house 3 by {word} 7", f"house 3 by 2 {word}"):
                self.unread_whole(read_house, text)

    def test_of_anything(self):
        for thing in NO_TEXTS:
            self.unread_whole(read_house, thing)

    def test_each_k(self):
        for k in range(2, 31):
            self.assertTrue(read_house(f"house {k} by" + " 2" * (k - 1)) == House(k, [2] * (k - 1)))


class SayingTest(TextsTest):
    def test_as_it_is_written(self):
        self.assertEqual(show_saying(("at most", 12, 7)), "12 at most 7")
        self.assertEqual(show_saying(("at least", 1, 10 ** 100)), "1 at least 1" + "0" * 100)
        self.assertEqual(show_saying(("at most", 10 ** 5000, 7)), "1" + "0" * 5000 + " at most 7")

    def test_what_is_written_is_read_again(self):
        chance = random.Random(101)
        for figures in (1, 3, 60, 63, 64, 65, 127, 128, 129, 200):
            for word in ("at most", "at least"):
                for _ in range(10):
                    saying = (word, chance.randrange(1, 10 ** figures), chance.randrange(1, 10 ** figures))
                    self.assertEqual(show_saying(saying), f"{saying[1]} {word} {saying[2]}")
                    told = read_saying(show_saying(saying))
                    self.assertEqual(told, saying)
                    self.assertIs(type(told), tuple)

    def test_what_is_no_saying_is_not_written(self):
        for wrong in NO_SAYINGS + NO_LISTS:
            with self.assertRaises(BadSaying) as caught:
                show_saying(wrong)
            self.assertEqual(caught.exception.place, 0)

    def test_what_cannot_be_read(self):
        self.assertEqual(read_saying("12 at least 7"), ("at least", 12, 7))
        wrong = [" 12 at most 7", "12 at most 7 ", "12  at most 7", "12 at  most 7", "12 at most  7", "12 at most 7\n",
                 "\n12 at most 7", "12 at\nmost 7", "12\tat most 7", "12 at\tmost 7", "12 At most 7", "12 at Most 7",
                 "12 at mostly 7", "12 atmost 7", "12 most at 7", "12 at 7", "12 most 7", "12 least 7", "12 7",
                 "at most 12 7", "at most 7", "12 at most", "12 at most ", "", " ", "12", "12 at most 7 8",
                 "12 at most 7\n12 at most 7", "0 at most 7", "12 at most 0", "0 at least 0", "12 at least 7.",
                 "12 at-least 7", "12 at  7", "12  at 7", "12 is 7", "ann sees 12 at most 7"]
        for text in wrong:
            self.unread_whole(read_saying, text)
        for word in NO_NUMBERS:
            self.unread_whole(read_saying, f"{word} at most 7")
            self.unread_whole(read_saying, f"12 at least {word}")

    def test_of_at_most_two_hundred_figures(self):
        self.assertEqual(read_saying(f"{LONG} at most {LONG}"), ("at most", 10 ** 199, 10 ** 199))

    def test_of_anything(self):
        for thing in NO_TEXTS:
            self.unread_whole(read_saying, thing)


class LoreTest(TextsTest):
    def test_as_it_is_written(self):
        lore = Lore(3)
        self.assertEqual(show_lore(lore), "lore 3")
        lore.leaves(3, "bob")
        lore.sees(40, "carl", ("at least", 30, 7))
        lore.sees(0, "ann", ("at most", 9, 4))
        lore.trusts(12, "bob")
        self.assertEqual(show_lore(lore), LORE)
        self.assertEqual(len(lore), 4)

    def test_read_as_it_is_written(self):
        lore = read_lore(LORE)
        self.assertIsInstance(lore, Lore)
        self.assertEqual(lore.base(), 3)
        self.assertEqual(lore.entries(), [(0, "ann", ("at most", 9, 4)), (3, "bob", False), (12, "bob", True),
                                          (40, "carl", ("at least", 30, 7))])
        self.assertIs(lore.entries()[1][2], False)
        self.assertEqual(read_lore("lore 30").entries(), [])
        self.assertEqual(read_lore("lore 30").base(), 30)

    def test_what_is_written_is_read_again(self):
        chance = random.Random(102)
        for _ in range(40):
            lore = Lore(chance.randrange(2, 31))
            for moment in chance.sample(range(1000), chance.randrange(30)) + [10 ** 150, FAR]:
                teller = "".join(chance.choice("abcxyz") for _ in range(chance.randrange(1, 13)))
                what = chance.randrange(4)
                if what < 2:
                    word = ["at most", "at least"][what]
                    lore.sees(moment, teller, (word, chance.randrange(1, 10 ** 90), chance.randrange(1, 10 ** 200)))
                elif what == 2:
                    lore.leaves(moment, teller)
                else:
                    lore.trusts(moment, teller)
            text = show_lore(lore)
            again = read_lore(text)
            self.assertEqual((again.base(), again.entries()), (lore.base(), lore.entries()))
            self.assertEqual(show_lore(again), text)
            first, *rows = text.split("\n")
            chance.shuffle(rows)
            self.assertEqual(read_lore("\n".join([first] + rows)).entries(), lore.entries())

    def test_tellers_that_are_words_of_the_rows(self):
        text = "lore 2\n1 sees sees 1 at most 1\n2 is is left\n3 left is trusted\n4 at sees 4 at least 4\n5 lore is left"
        self.assertEqual(show_lore(read_lore(text)), text)

    def test_the_first_row_first(self):
        wrong = ["", " ", "lore", "lore ", "lore  3", " lore 3", "lore 3 ", "Lore 3", "lores 3", "lore\t3", "lore 1",
                 "lore 0", "lore 31", "lore 3 by 1 1", "house 3 by 1 1", "3", "1 ann is left", "lore k", "lore three"]
        for first in wrong + [f"lore {word}" for word in NO_NUMBERS if "\n" not in word]:
            self.unread(read_lore, first, first)
            self.unread(read_lore, first + "\n1 ann is left", first)
            self.unread(read_lore, first + "\nnothing\n", first)
            self.unread(read_lore, first + "\n1 ann is left\n1 ann is left", first)

    def test_the_first_row_that_cannot_be_read(self):
        wrong = ["", " ", "1", "1 ann", "1 ann ", "1 ann is", "1 ann left", "1 ann trusted", "1 ann sees", "1 ann sees ",
                 "1 ann is left ", " 1 ann is left", "1  ann is left", "1 ann  is left", "1 ann is  left",
                 "1 ann is Left", "1 ann Is left", "1 ann is leaving", "1 ann is trusted again", "1 ann was left",
                 "1 ann is lefts", "1 ann\tis left", "1\tann is left", "1 ann is left\t", "ann is left", "1 is left",
                 "1 ann sees 9 at most", "1 ann sees at most 4", "1 ann sees 9 at 4", "1 ann sees  9 at most 4",
                 "1 ann sees 9 at most 4 ", "1 ann sees 9 at  most 4", "1 ann sees 0 at most 4", "1 ann sees 9 at most 0",
                 "1 ann sees 9 at most 4 5", "1 ann sees 9 at more 4", "1 ann Sees 9 at most 4", "1 ann saw 9 at most 4",
                 "1 ann 9 at most 4", "1 ann sees", "lore 3", "1 ann sees is left", "1 ann sees sees 9 at most 4"]
        for teller in ["Ann", "ANN", "ann1", "a-b", "a_b", "1", "abcdefghijklm", "a" * 30, ""]:
            wrong += [f"1 {teller} is left", f"1 {teller} is trusted", f"1 {teller} sees 9 at most 4"]
        for word in NO_NUMBERS:
            if "\n" not in word:
                wrong += [f"{word} ann is left", f"{word} ann sees 9 at most 4", f"{word} ann is trusted",
                          f"1 ann sees {word} at most 4", f"1 ann sees 9 at least {word}"]
        first, *rows = LORE.split("\n")
        for row in wrong:
            self.unread(read_lore, f"{first}\n{row}", row)
            for at in range(len(rows) + 1):
                self.unread(read_lore, "\n".join([first] + rows[:at] + [row] + rows[at:]), row)
            self.unread(read_lore, "\n".join([LORE, row, "nothing", "", row]), row)
            self.unread(read_lore, "\n".join([LORE, "nothing", row]), "nothing")

    def test_a_line_feed_at_the_end(self):
        self.unread(read_lore, LORE + "\n", "")
        self.unread(read_lore, LORE + "\n\n", "")
        self.unread(read_lore, "lore 3\n", "")
        self.unread(read_lore, "\n" + LORE, "")
        self.unread(read_lore, "\n", "")
        self.unread(read_lore, "lore 3\n\n1 ann is left", "")

    def test_of_at_most_two_hundred_figures(self):
        lore = read_lore(f"lore 2\n{LONG} ann sees {LONG} at most {LONG}")
        self.assertEqual(lore.entries(), [(10 ** 199, "ann", ("at most", 10 ** 199, 10 ** 199))])
        for row in (f"{TOO_LONG} ann is left", f"1 ann sees {TOO_LONG} at most 4", f"1 ann sees 9 at most {TOO_LONG}"):
            self.unread(read_lore, "lore 2\n" + row, row)

    def test_of_anything(self):
        for thing in NO_TEXTS:
            self.unread_whole(read_lore, thing)

    def test_the_same_moment(self):
        for text, moment in [("lore 3\n1 ann is left\n1 ann is left", 1),
                             ("lore 3\n7 ann is left\n1 bob is left\n7 bob is left\n1 ann is left", 7),
                             ("lore 3\n7 ann is left\n1 bob is left\n1 bob is left\n7 ann is left", 1),
                             (LORE + "\n0 bob is left", 0), (LORE + "\n5 bob is left\n40 bob is trusted", 40),
                             (f"lore 2\n{LONG} ann is left\n{LONG} bob is left", 10 ** 199)]:
            with self.assertRaises(SameMoment) as caught:
                read_lore(text)
            self.assertEqual(caught.exception.moment, moment)
            self.unread(read_lore, text + "\nnothing", "nothing")
            self.unread(read_lore, text + "\n", "")

    def test_an_unread_thing_is_a_copy(self):
        for read in (read_house, read_saying, read_lore):
            thing = [["lore 3"]]
            with self.assertRaises(Unread) as caught:
                read(thing)
            thing[0].append(1)
            self.assertEqual(caught.exception.row, [["lore 3"]])


class NamesTest(unittest.TestCase):
    def test_by_places_and_by_names(self):
        self.assertEqual(show_house(house=House(2, [1])), "house 2 by 1")
        self.assertEqual(show_saying(saying=("at most", 1, 1)), "1 at most 1")
        self.assertEqual(show_lore(lore=Lore(2)), "lore 2")
        self.assertTrue(read_house(text="house 2 by 1") == House(2, [1]))
        self.assertEqual(read_saying(text="1 at most 1"), ("at most", 1, 1))
        self.assertEqual(read_lore(text="lore 2").base(), 2)

    def test_each_time_a_lore_of_its_own(self):
        one, other = read_lore(LORE), read_lore(LORE)
        one.drop(0)
        self.assertEqual((len(one), len(other)), (3, 4))


if __name__ == "__main__":
    unittest.main()
