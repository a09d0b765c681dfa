"""What follows ([23], and what [2], [3], [4] say of it)."""

import random
import unittest

from askback.bars import bar_of, shows_bar
from askback.errors import BadHouse, BadSaying, NoHouse
from askback.follows import follows, may_be, shows_follows
from askback.house import House
from askback.sightings import greatest_house, keeps, least_house, reaches
from tests.plain import (FAR, NO_LISTS, NO_SAYINGS, AllHouses, far_sayings, great_houses, is_kept,
                         refuses_no_k_then_no_sayings)

ALL = [AllHouses(2, 12), AllHouses(3, 9), AllHouses(4, 7)]

KEPT_BY_ALL = ("at least", 5, 1)
BARRED = [("at most", 9, 3), ("at most", 7, 1), ("at least", 7, 2)]


def contrary(saying):
    word, place, number = saying
    return ("at most", place, number - 1) if word == "at least" else ("at least", place, number + 1)


def otherwise(k, sayings, told):
    """What is told with one thing otherwise; none of these may be told in its place."""
    word, thing = told
    yield from (list(told), (word,), (thing,), told + (None,), told + (thing,), (thing, word), (told,), [told])
    yield from ((word.upper(), thing), (word + " ", thing), ("", thing), (None, thing), (True, thing))
    yield from (([word], thing), ((word,), thing), (thing, thing), (word, word), None, True, False, 0, word)
    yield from (thing, {word: thing}, {0: word, 1: thing}, (), [], {}, str(word))
    if word == "follows":
        yield from (("open", thing), ("follows", [thing]), ("follows", (thing,)), ("follows", {0: thing}))
        yield from (("follows", thing + [len(sayings) + 1]), ("follows", [-1] + thing), ("follows", None))
        yield from (("follows", thing + thing[-1:] + [None]), ("follows", str(thing)), ("follows", thing + ["0"]))
        if thing:
            yield from (("follows", []), ("follows", ()), ("follows", thing + thing[-1:]))
            yield from (("follows", [None] + thing[1:]), ("follows", thing[:-1] + [thing[-1:]]))
        else:
            yield from (("follows", [0]), ("follows", [len(sayings)]), ("follows", [[]]), ("follows", ""))
        if len(thing) > 1:
            yield ("follows", thing[::-1])
    else:
        beginning = thing.beginning()
        yield from (("follows", thing), ("open", [thing]), ("open", (thing,)), ("open", beginning))
        yield from (("open", (k, beginning)), ("open", None), ("open", []), ("open", [0]), ("open", True))
        # Behind its beginning a house of k is here gone on by one of greater k.
        if k < 30:
            yield ("open", House(k + 1, beginning + [thing.times(k)]))


class FollowsTest(unittest.TestCase):
    def test_against_all_houses(self):
        chance = random.Random(81)
        many = {"follows": 0, "open": 0, None: 0}
        for houses in ALL:
            k = houses.k
            for _ in range(250):
                sayings, saying = houses.some_sayings(chance, 5), houses.some_saying(chance)
                rows = [row for reach in range(houses.upto + 2) for row in houses.keeping(sayings, reach)]
                if not rows:
                    many[None] += 1
                    with self.assertRaises(NoHouse):
                        follows(k, sayings, saying)
                    continue
                told = follows(k, sayings, saying)
                self.assertIs(type(told), tuple)
                many[told[0]] += 1
                if all(is_kept(saying, said) for _, said in rows):
                    self.assertEqual(told[0], "follows")
                    self.check_bar(houses, sayings, saying, told[1])
                else:
                    self.assertEqual(told[0], "open")
                    self.assertIsInstance(told[1], House)
                    self.assertEqual(told[1].base(), k)
                    self.assertTrue(all(keeps(told[1], one) for one in sayings))
                    self.assertFalse(keeps(told[1], saying))
                self.assertIs(shows_follows(k, sayings, saying, told), True)
        self.assertTrue(all(one > 60 for one in many.values()), many)

    def check_bar(self, houses, sayings, saying, bar):
        self.assertIs(type(bar), list)
        if saying[0] == "at least" and saying[2] == 1:
            self.assertEqual(bar, [])
            return
        behind = sayings + [contrary(saying)]
        self.assertTrue(1 <= len(bar) <= 4)
        self.assertEqual(bar, sorted(set(bar)))
        self.assertIsNone(houses.reaches([behind[place] for place in bar]))
        self.assertIs(shows_bar(houses.k, behind, bar), True)

    def test_at_least_1_all_keep(self):
        for k in (2, 3, 30):
            for sayings in ([], [("at most", FAR, 7)]):
                self.assertEqual(follows(k, sayings, KEPT_BY_ALL), ("follows", []))
                self.assertEqual(follows(k, sayings, ("at least", FAR, 1)), ("follows", []))

    def test_far(self):
        chance = random.Random(82)
        for house in great_houses():
            k = house.base()
            sayings = far_sayings(house, chance, 40, 10 ** 20)
            for place in (FAR, 10 ** 90 + 1, chance.randrange(1, 10 ** 150)):
                least, greatest = may_be(k, sayings, place)
                self.assertTrue(least <= house.said(place) <= greatest)
                for saying in (("at least", place, least), ("at most", place, greatest)):
                    word, bar = follows(k, sayings, saying)
                    self.assertEqual(word, "follows")
                    if bar:
                        self.assertIs(shows_bar(k, sayings + [contrary(saying)], bar), True)
                    self.assertIs(shows_follows(k, sayings, saying, (word, bar)), True)
                for saying in (("at least", place, least + 1), ("at most", place, greatest - 1)):
                    if saying[2] >= 1:
                        word, open_house = follows(k, sayings, saying)
                        self.assertEqual((word, open_house.base()), ("open", k))
                        self.assertTrue(all(keeps(open_house, one) for one in sayings))
                        self.assertFalse(keeps(open_house, saying))
                        self.assertIs(shows_follows(k, sayings, saying, (word, open_house)), True)

    def test_no_house(self):
        for saying in (KEPT_BY_ALL, ("at most", 5, 5), ("at least", 9, 9)):
            with self.assertRaises(NoHouse):
                follows(2, BARRED, saying)

    def test_what_is_told_is_the_askers_own(self):
        sayings = [("at most", 7, 1)]
        follows(2, [], KEPT_BY_ALL)[1].append(3)
        follows(2, sayings, ("at most", 6, 1))[1].append(3)
        self.assertEqual(follows(2, [], KEPT_BY_ALL), ("follows", []))
        self.assertEqual(follows(2, sayings, ("at most", 6, 1)), ("follows", [0, 1]))


class LookTest(unittest.TestCase):
    def test_with_one_thing_otherwise(self):
        chance = random.Random(83)
        for houses in ALL:
            for _ in range(60):
                sayings, saying = houses.some_sayings(chance, 5), houses.some_saying(chance)
                if reaches(houses.k, sayings) is None:
                    continue
                told = follows(houses.k, sayings, saying)
                for wrong in otherwise(houses.k, sayings, told):
                    self.assertIs(shows_follows(houses.k, sayings, saying, wrong), False, (told, wrong))

    def test_a_bar_as_a_tuple_in_the_lists_place(self):
        sayings = [("at most", 7, 1)]
        for bar in ([0, 1], (0, 1)):
            self.assertIs(shows_follows(2, sayings, ("at most", 6, 1), ("follows", bar)), True)
        for bar in ([], ()):
            self.assertIs(shows_follows(2, sayings, KEPT_BY_ALL, ("follows", bar)), True)
            self.assertIs(shows_follows(2, sayings, ("at most", 6, 1), ("follows", bar)), False)

    def test_truths_are_no_places(self):
        self.assertIs(shows_follows(2, [("at most", 7, 1)], ("at most", 6, 1), ("follows", [False, True])), False)
        self.assertIs(shows_follows(2, [("at most", 7, 1)], ("at most", 6, 1), ("follows", [0, True])), False)

    def test_any_bar_and_any_house(self):
        sayings = [("at most", 7, 1), ("at most", 8, 1), ("at least", 30, 3)]
        for bar in ([0, 3], [1, 3], [0, 1, 3], [0, 1, 2, 3]):
            self.assertIs(shows_follows(2, sayings, ("at most", 6, 1), ("follows", bar)), True)
        for bar in ([3], [2, 3], [0, 1, 2], [1, 2], [0], [0, 4]):
            self.assertIs(shows_follows(2, sayings, ("at most", 6, 1), ("follows", bar)), False)
        for reach in range(40):
            house = House(2, [reach + 1])
            good = all(keeps(house, one) for one in sayings) and not keeps(house, ("at most", 20, 2))
            self.assertIs(shows_follows(2, sayings, ("at most", 20, 2), ("open", house)), good)

    def test_houses_of_another_k(self):
        sayings, saying = [("at most", 3, 2)], ("at least", 9, 9)
        self.assertIs(shows_follows(3, sayings, saying, ("open", House(3, [2, 2]))), True)
        self.assertIs(shows_follows(3, sayings, saying, ("open", House(4, [2, 2, 2]))), False)
        self.assertIs(shows_follows(4, sayings, saying, ("open", House(4, [2, 2, 2]))), True)
        self.assertIs(shows_follows(4, sayings, saying, ("open", House(3, [2, 2]))), False)
        self.assertIs(shows_follows(3, sayings, saying, House(3, [2, 2])), False)
        self.assertIs(shows_follows(3, sayings, saying, (House(3, [2, 2]), House(3, [2, 2]))), False)
        self.assertIs(shows_follows(3, sayings, saying, ("follows", House(3, [2, 2]))), False)

    def test_where_no_house_keeps_the_list(self):
        chance = random.Random(84)
        for houses in ALL:
            for _ in range(80):
                sayings, saying = houses.some_sayings(chance, 7), houses.some_saying(chance)
                bar = bar_of(houses.k, sayings)
                if bar is None:
                    continue
                for one in (saying, KEPT_BY_ALL, ("at most", 3, 3)):
                    is_kept_by_all = one[0] == "at least" and one[2] == 1
                    self.assertIs(shows_follows(houses.k, sayings, one, ("follows", bar)), True)
                    self.assertIs(shows_follows(houses.k, sayings, one, ("follows", tuple(bar))), True)
                    for empty in ([], ()):
                        told = shows_follows(houses.k, sayings, one, ("follows", empty))
                        self.assertIs(told, is_kept_by_all)
                    for reach in range(5):
                        house = House(houses.k, [reach + 1] + [1] * (houses.k - 2))
                        self.assertIs(shows_follows(houses.k, sayings, one, ("open", house)), False)
                    for wrong in (["follows", bar], ("open", bar), ("follows", bar + [len(sayings) + 1])):
                        self.assertIs(shows_follows(houses.k, sayings, one, wrong), False)

    def test_of_anything_else(self):
        things = NO_LISTS + NO_SAYINGS + [[], (), [[]], ("follows",), ("open",), ("open", None), "follows", "open"]
        for saying in (KEPT_BY_ALL, ("at most", 6, 1), ("at least", 90, 50)):
            for thing in things:
                self.assertIs(shows_follows(2, [("at most", 7, 1)], saying, thing), False, thing)
                self.assertIs(shows_follows(2, BARRED, saying, thing), False, thing)


class MayBeTest(unittest.TestCase):
    def test_against_all_houses(self):
        chance = random.Random(85)
        none = 0
        for houses in ALL:
            for _ in range(120):
                sayings = houses.some_sayings(chance, 5)
                rows = [houses.keeping(sayings, reach) for reach in range(houses.upto + 2)]
                for place in range(1, houses.upto + 1):
                    there = [said[place] for row in rows for _, said in row]
                    none += self.check(houses.k, sayings, place, there, None)
                    for reach in range(houses.upto + 2):
                        there = sorted({said[place] for _, said in rows[reach]})
                        self.assertEqual(there, list(range(there[0], there[-1] + 1)) if there else [])
                        none += self.check(houses.k, sayings, place, there, reach)
        self.assertGreater(none, 1000)

    def check(self, k, sayings, place, there, reach):
        """That the least and the greatest of these are told; or, where there are none, NoHouse: told is 1."""
        if there:
            told = may_be(k, sayings, place, reach=reach)
            self.assertIs(type(told), tuple)
            self.assertEqual(told, (min(there), max(there)))
            return 0
        with self.assertRaises(NoHouse):
            may_be(k, sayings, place, reach=reach)
        return 1

    def test_of_no_sayings(self):
        for k in (2, 3, 30):
            for place in (1, 2, 31, 10 ** 60, FAR):
                self.assertEqual(may_be(k, [], place), (1, House(k, [1] * (k - 1)).said(place)))
        self.assertEqual(may_be(4, [], 10, reach=9), (1, 3))

    def test_far_of_a_reach(self):
        chance = random.Random(86)
        for house in great_houses():
            k, sayings = house.base(), far_sayings(house, chance, 50, 10 ** 30)
            least, greatest = reaches(k, sayings)
            some_reaches = (least, house.reach(), least * 2 + 10 ** 40 if greatest is None else greatest)
            for place in (FAR, house.folk() + 3):
                whole = may_be(k, sayings, place)
                for reach in some_reaches:
                    low = least_house(k, sayings, reach).said(place)
                    high = greatest_house(k, sayings, reach).said(place)
                    self.assertEqual(may_be(k, sayings, place, reach=reach), (low, high))
                    self.assertTrue(whole[0] <= low <= high <= whole[1])
            if least > 0:
                with self.assertRaises(NoHouse):
                    may_be(k, sayings, FAR, reach=least - 1)
            if greatest is not None:
                with self.assertRaises(NoHouse):
                    may_be(k, sayings, FAR, reach=greatest + 1)

    def test_far_where_a_greater_reach_says_more(self):
        # The first numbers are said the longer the less the reach is, so as to keep what is said far behind.
        chance = random.Random(87)
        risen = 0
        for k in (3, 4, 17):
            sayings = [("at most", 10 ** 60, k ** 20 * sign) for sign in range(1, k)]
            least_reach = reaches(k, sayings)[0]
            for _ in range(12):
                place = chance.randrange(1, 10 ** 60)
                least, greatest = may_be(k, sayings, place)
                risen += greatest > may_be(k, sayings, place, reach=least_reach)[1]
                for number, word in ((greatest, "follows"), (greatest - 1, "open")):
                    if number >= 1:
                        self.assertEqual(follows(k, sayings, ("at most", place, number))[0], word)
                for number, word in ((least, "follows"), (least + 1, "open")):
                    self.assertEqual(follows(k, sayings, ("at least", place, number))[0], word)
        self.assertGreater(risen, 5)

    def test_no_house(self):
        for reach in (None, 0, 6, FAR):
            with self.assertRaises(NoHouse):
                may_be(2, BARRED, 5, reach=reach)


class RefusedTest(unittest.TestCase):
    def test_no_k_then_no_sayings(self):
        refuses_no_k_then_no_sayings(self, lambda k, sayings: follows(k, sayings, KEPT_BY_ALL))
        refuses_no_k_then_no_sayings(self, lambda k, sayings: follows(k, sayings, None))
        refuses_no_k_then_no_sayings(self, lambda k, sayings: shows_follows(k, sayings, KEPT_BY_ALL, None))
        refuses_no_k_then_no_sayings(self, lambda k, sayings: shows_follows(k, sayings, None, ("follows", [])))
        refuses_no_k_then_no_sayings(self, lambda k, sayings: may_be(k, sayings, 5))
        refuses_no_k_then_no_sayings(self, lambda k, sayings: may_be(k, sayings, 5, reach=3))

    def test_then_what_is_no_saying_by_how_many_the_list_has(self):
        for sayings in ([], BARRED, tuple(BARRED), [("at most", 3, 3)] * 200):
            for wrong in NO_SAYINGS + NO_LISTS:
                for call in (follows, lambda k, row, one: shows_follows(k, row, one, ("follows", []))):
                    with self.assertRaises(BadSaying) as caught:
                        call(2, sayings, wrong)
                    self.assertEqual(caught.exception.place, len(sayings))

    def test_ahead_of_no_house(self):
        with self.assertRaises(BadHouse):
            may_be(31, BARRED, 5)
        with self.assertRaises(BadSaying):
            may_be(2, BARRED + [None], 5, reach=2)
        with self.assertRaises(BadSaying):
            follows(2, BARRED, None)


class NamesTest(unittest.TestCase):
    SAYINGS = [("at most", 9, 4), ("at least", 40, 5)]

    def test_by_places_and_by_names(self):
        saying = ("at most", 8, 4)
        told = follows(3, self.SAYINGS, saying)
        self.assertEqual(follows(saying=saying, sayings=self.SAYINGS, k=3), told)
        self.assertIs(shows_follows(paper=told, saying=saying, sayings=self.SAYINGS, k=3), True)
        self.assertEqual(may_be(place=8, sayings=self.SAYINGS, k=3), may_be(3, self.SAYINGS, 8))
        self.assertEqual(may_be(reach=5, place=8, sayings=self.SAYINGS, k=3), may_be(3, self.SAYINGS, 8, reach=5))
        self.assertEqual(may_be(3, self.SAYINGS, 8, reach=None), may_be(3, self.SAYINGS, 8))
        with self.assertRaises(TypeError):
            may_be(3, self.SAYINGS, 8, 5)

    def test_a_tuple_in_the_lists_place_and_all_unchanged(self):
        sayings, saying = list(self.SAYINGS), ("at least", 8, 4)
        told = follows(3, tuple(sayings), saying)
        self.assertTrue(told == follows(3, sayings, saying))
        self.assertIs(shows_follows(3, tuple(sayings), saying, told), True)
        self.assertEqual(may_be(3, tuple(sayings), 70), may_be(3, sayings, 70))
        self.assertEqual(sayings, self.SAYINGS)

    def test_a_list_that_is_changed_behind(self):
        sayings = list(self.SAYINGS)
        word, house = follows(3, sayings, ("at least", 8, 4))
        beginning = house.beginning()
        sayings.clear()
        self.assertEqual((word, house.beginning()), ("open", beginning))
        self.assertEqual(may_be(3, sayings, 8), (1, 6))
        sayings.append(("at most", 8, 1))
        self.assertEqual(may_be(3, sayings, 8), (1, 1))
        self.assertEqual(follows(3, sayings, ("at most", 8, 1)), ("follows", [0, 1]))


if __name__ == "__main__":
    unittest.main()
