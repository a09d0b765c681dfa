"""Sightings ([21], and what [2], [3], [4] say of them)."""

import random
import unittest

from askback.apart import less_at
from askback.errors import BadHouse, BadSaying
from askback.house import House
from askback.sightings import greatest_house, keeps, least_house, reaches
from tests.plain import (FAR, NO_LISTS, NO_SAYINGS, AllHouses, far_sayings, great_houses, is_kept,
                         refuses_no_k_then_no_sayings, said_by_rule, small_houses)

ALL = [AllHouses(2, 14), AllHouses(3, 11), AllHouses(4, 8), AllHouses(5, 6)]


def keeping_all(test, k, sayings, reach):
    """That the least and the greatest house of the reach are there and keep all sayings."""
    for call in (least_house, greatest_house):
        house = call(k, sayings, reach)
        test.assertEqual((house.base(), house.reach()), (k, reach))
        test.assertTrue(all(keeps(house, saying) for saying in sayings))


def far_rows():
    """Houses with many sayings of far places that they keep."""
    chance = random.Random(61)
    houses = great_houses() + [House(4, [chance.randrange(1, 10 ** 150) for _ in range(3)]) for _ in range(3)]
    return [(house, far_sayings(house, chance, 60, loose)) for house in houses for loose in (2, 10 ** 6, 10 ** 60)]


class KeepsTest(unittest.TestCase):
    def test_against_what_is_said(self):
        for house, k, beginning in small_houses():
            said = said_by_rule(k, beginning, 60)
            for place in range(1, 61):
                for number in (1, said[place] - 1, said[place], said[place] + 1, 100):
                    for word in ("at most", "at least"):
                        if number >= 1:
                            saying = (word, place, number)
                            self.assertIs(keeps(house, saying), is_kept(saying, said))

    def test_far(self):
        for house in great_houses():
            for place in (FAR, 10 ** 120, 7):
                number = house.said(place)
                self.assertIs(keeps(house, ("at most", place, number)), True)
                self.assertIs(keeps(house, ("at least", place, number)), True)
                self.assertIs(keeps(house, ("at least", place, number + 1)), False)
                if number > 1:
                    self.assertIs(keeps(house, ("at most", place, number - 1)), False)

    def test_what_is_no_saying(self):
        for wrong in NO_SAYINGS + NO_LISTS:
            with self.assertRaises(BadSaying) as caught:
                keeps(House(3, [2, 3]), wrong)
            self.assertEqual(caught.exception.place, 0)


class ReachesTest(unittest.TestCase):
    def test_against_all_houses(self):
        chance = random.Random(62)
        told = {None: 0, "end": 0, "no end": 0}
        for houses in ALL:
            for _ in range(400):
                sayings = houses.some_sayings(chance, 6)
                by_rule = houses.reaches(sayings)
                self.assertEqual(reaches(houses.k, sayings), by_rule)
                told[by_rule and ("no end" if by_rule[1] is None else "end")] += 1
        self.assertTrue(all(many > 100 for many in told.values()), told)

    def test_of_no_sayings_all(self):
        for k in (2, 3, 30):
            self.assertEqual(reaches(k, []), (0, None))
            self.assertEqual(reaches(k, [("at least", 10 ** 50, 1), ("at most", 1, 1)]), (0, None))

    def test_by_hand(self):
        self.assertEqual(reaches(2, [("at most", 7, 1)]), (6, None))
        self.assertEqual(reaches(2, [("at least", 7, 2)]), (0, 5))
        self.assertEqual(reaches(2, [("at most", 7, 1), ("at least", 8, 2)]), (6, 6))
        self.assertIsNone(reaches(2, [("at most", 7, 1), ("at least", 7, 2)]))
        self.assertIsNone(reaches(2, [("at least", 7, 8)]))
        self.assertEqual(reaches(2, [("at most", FAR, 1)]), (FAR - 1, None))
        self.assertEqual(reaches(30, [("at least", FAR, 2)]), (0, None))
        self.assertEqual(reaches(30, [("at most", FAR, 29), ("at least", FAR, 30)]), None)

    def test_a_tuple_of_a_least_and_a_greatest(self):
        self.assertIs(type(reaches(3, [])), tuple)
        self.assertIs(type(reaches(3, [("at least", 9, 3)])), tuple)

    def test_far_at_the_ends_houses_are_and_past_them_none(self):
        for house, sayings in far_rows():
            k = house.base()
            least, greatest = reaches(k, sayings)
            self.assertTrue(least <= house.reach() and (greatest is None or house.reach() <= greatest))
            keeping_all(self, k, sayings, least)
            keeping_all(self, k, sayings, house.reach())
            if least > 0:
                self.assertIsNone(least_house(k, sayings, least - 1))
                self.assertIsNone(greatest_house(k, sayings, least // 2))
            if greatest is None:
                keeping_all(self, k, sayings, 10 ** 500)
            else:
                keeping_all(self, k, sayings, greatest)
                keeping_all(self, k, sayings, (least + greatest) // 2)
                self.assertIsNone(least_house(k, sayings, greatest + 1))
                self.assertIsNone(greatest_house(k, sayings, greatest * 2 + 1))

    def test_far_just_one_reach(self):
        for house in great_houses():
            k, end = house.base(), house.folk()
            sayings = [("at most", end, k - 1), ("at least", end + 1, k)]
            self.assertEqual(reaches(k, sayings), (house.reach(), house.reach()))
            ends = [house.last_place(number) for number in range(1, k)]
            for number, last in enumerate(ends, start=1):
                sayings += [("at most", last, number), ("at least", last + 1, number + 1)]
            self.assertTrue(least_house(k, sayings, house.reach()) == house)
            self.assertTrue(greatest_house(k, sayings, house.reach()) == house)

    def test_two_hundred_sayings(self):
        chance = random.Random(63)
        for k in (2, 13, 30):
            house = House(k, [chance.randrange(1, 10 ** 100) for _ in range(k - 1)])
            sayings = far_sayings(house, chance, 200, 10 ** 30)
            least, greatest = reaches(k, sayings)
            keeping_all(self, k, sayings, least)
            self.assertTrue(greatest is None or least <= house.reach() <= greatest)

    def test_in_any_order(self):
        chance = random.Random(64)
        for house, sayings in far_rows()[::5]:
            told = reaches(house.base(), sayings)
            for _ in range(3):
                chance.shuffle(sayings)
                self.assertEqual(reaches(house.base(), sayings), told)


class HousesTest(unittest.TestCase):
    def test_against_all_houses(self):
        chance = random.Random(65)
        none = 0
        for houses in ALL:
            for _ in range(120):
                sayings = houses.some_sayings(chance, 4)
                for reach in range(houses.upto + 2):
                    rows = houses.keeping(sayings, reach)
                    low, high = [call(houses.k, sayings, reach) for call in (least_house, greatest_house)]
                    if not rows:
                        self.assertIsNone(low)
                        self.assertIsNone(high)
                        none += 1
                        continue
                    beginnings = [beginning for beginning, _ in rows]
                    self.assertIn(low.beginning(), beginnings)
                    self.assertIn(high.beginning(), beginnings)
                    for beginning in beginnings:
                        self.assertIsNone(less_at(House(houses.k, beginning), low))
                        self.assertIsNone(less_at(high, House(houses.k, beginning)))
        self.assertGreater(none, 1000)

    def test_far_none_says_less_or_more(self):
        for house, sayings in far_rows():
            low, high = [call(house.base(), sayings, house.reach()) for call in (least_house, greatest_house)]
            self.assertIsNone(less_at(house, low))
            self.assertIsNone(less_at(high, house))

    def test_of_no_sayings(self):
        for reach in (0, 5, FAR):
            self.assertEqual(least_house(4, [], reach).beginning(), [reach + 1, 1, 1])
            self.assertEqual(greatest_house(4, [], reach).beginning(), [1, 1, reach + 1])
            self.assertEqual(least_house(2, [], reach).beginning(), [reach + 1])


class RefusedTest(unittest.TestCase):
    def test_no_k_then_no_sayings(self):
        refuses_no_k_then_no_sayings(self, reaches)
        refuses_no_k_then_no_sayings(self, lambda k, sayings: least_house(k, sayings, 3))
        refuses_no_k_then_no_sayings(self, lambda k, sayings: greatest_house(k, sayings, 3))

    def test_also_where_no_house_is(self):
        bar = [("at most", 7, 1), ("at least", 7, 2)]
        with self.assertRaises(BadSaying) as caught:
            reaches(2, bar + [None])
        self.assertEqual(caught.exception.place, 2)
        with self.assertRaises(BadHouse):
            least_house(1, bar, 5)


class NamesTest(unittest.TestCase):
    SAYINGS = [("at most", 9, 4), ("at least", 40, 5)]

    def test_by_places_and_by_names(self):
        house = House(3, [2, 3])
        self.assertIs(keeps(saying=("at most", 9, 4), house=house), keeps(house, ("at most", 9, 4)))
        self.assertEqual(reaches(sayings=self.SAYINGS, k=3), reaches(3, self.SAYINGS))
        for call in (least_house, greatest_house):
            self.assertTrue(call(reach=6, sayings=self.SAYINGS, k=3) == call(3, self.SAYINGS, 6))

    def test_a_tuple_in_the_lists_place(self):
        sayings = tuple(self.SAYINGS)
        self.assertEqual(reaches(3, sayings), reaches(3, self.SAYINGS))
        for call in (least_house, greatest_house):
            self.assertTrue(call(3, sayings, 6) == call(3, self.SAYINGS, 6))

    def test_what_was_handed_in_is_not_changed_and_told_again_is_the_same(self):
        sayings = list(self.SAYINGS)
        for _ in range(2):
            reaches(3, sayings)
            told = least_house(3, sayings, 6)
            greatest_house(3, sayings, 6).beginning().append(4)
            told.beginning()[0] = 90
            self.assertEqual(sayings, self.SAYINGS)
            self.assertTrue(told == least_house(3, sayings, 6))


if __name__ == "__main__":
    unittest.main()
