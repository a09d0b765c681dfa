"""Cores of lists of sayings, and pins of houses ([25], and what [2], [3], [4] say of them)."""

import copy
import itertools
import random
import unittest

from askback.cores import core, pins
from askback.errors import NoHouse
from askback.follows import follows
from askback.house import House
from askback.sightings import keeps, reaches
from tests.plain import (
    FAR,
    AllHouses,
    beginnings_of,
    far_sayings,
    great_houses,
    refuses_no_k_then_no_sayings,
    small_houses,
)

ALL = [AllHouses(2, 12), AllHouses(3, 9), AllHouses(4, 7)]


def core_by_rule(sayings, does_follow):
    left = list(range(len(sayings)))
    for place in range(len(sayings) - 1, -1, -1):
        others = [other for other in left if other != place]
        if does_follow([sayings[other] for other in others], sayings[place]):
            left = others
    return left


class CoreTest(unittest.TestCase):
    def test_against_leaving_out_one_by_one(self):
        chance = random.Random(255)
        shorter = 0
        for houses in ALL:
            rows = [row for row_of_reach in houses.by_reach for row in row_of_reach]

            def kept_by(saying, held={}):
                key = (houses.k, saying)
                if key not in held:
                    word, place, number = saying
                    held[key] = {at for at, (_, said) in enumerate(rows)
                                 if (said[place] <= number if word == "at most" else said[place] >= number)}
                return held[key]

            def does_follow(others, saying):
                keeping = set(range(len(rows)))
                for other in others:
                    keeping &= kept_by(other)
                return keeping <= kept_by(saying)

            for _ in range(150):
                sayings = houses.some_sayings(chance, 8)
                sayings += sayings[:chance.randrange(3)] + [("at least", 5, 1)] * chance.randrange(2)
                chance.shuffle(sayings)
                if houses.reaches(sayings) is None:
                    self.assertRaises(NoHouse, core, houses.k, sayings)
                    continue
                found = core(houses.k, sayings)
                self.assertEqual(found, core_by_rule(sayings, does_follow))
                self.assertEqual(core(houses.k, tuple(sayings)), found)
                shorter += len(found) < len(sayings)
        self.assertGreater(shorter, 100)

    def test_twice_the_same_and_what_binds_nothing(self):
        saying = ("at most", 9, 4)
        self.assertEqual(core(3, [saying, saying, saying]), [0])
        self.assertEqual(core(3, [("at most", 9, 5), saying]), [1])
        self.assertEqual(core(3, [saying, ("at most", 9, 5)]), [0])
        self.assertEqual(core(3, [("at least", 9, 1), ("at least", 1, 1), ("at most", 9, 9), ("at most", 1, 1)]), [])
        self.assertEqual(core(3, []), [])

    def test_no_house(self):
        for sayings in ([("at least", 1, 2)], [("at most", 9, 4), ("at least", 9, 5)]):
            with self.assertRaises(NoHouse) as caught:
                core(3, sayings)
            self.assertIs(type(caught.exception), NoHouse)

    def test_far(self):
        chance = random.Random(256)
        for house in great_houses():
            k = house.base()
            sayings = far_sayings(house, chance, 40, 10 ** chance.choice([1, 30, 80]))
            found = core(k, sayings)
            by_rule = core_by_rule(sayings, lambda others, saying: follows(k, others, saying)[0] == "follows")
            self.assertEqual(found, by_rule)
            left = [sayings[place] for place in found]
            self.assertEqual(reaches(k, left), reaches(k, sayings))
            self.assertEqual(core(k, left), list(range(len(left))))

    def test_two_hundred(self):
        chance = random.Random(257)
        for house in great_houses()[::3]:
            sayings = far_sayings(house, chance, 200, 10 ** 50)
            found = core(house.base(), sayings)
            left = [sayings[place] for place in found]
            for place, saying in enumerate(sayings):
                if place not in found:
                    self.assertEqual(follows(house.base(), left, saying)[0], "follows")

    def test_refusals_and_names(self):
        refuses_no_k_then_no_sayings(self, core)
        sayings = [("at most", 9, 4), ("at most", 9, 7), ("at least", 40, 14)]
        held = copy.deepcopy(sayings)
        self.assertEqual(core(sayings=sayings, k=3), core(3, sayings))
        self.assertEqual(sayings, held)


class PinTest(unittest.TestCase):
    def are_pins(self, house, told):
        self.assertIs(type(told), list)
        self.assertLessEqual(len(told), 2 * house.base())
        self.assertTrue(all(type(saying) is tuple and keeps(house, saying) for saying in told))
        self.assertEqual(reaches(house.base(), told), (house.reach(), house.reach()))

    def test_against_all_houses_of_small_reaches(self):
        for k in (2, 3, 4, 5):
            houses = [House(k, beginning) for reach in range(7) for beginning in beginnings_of(k, reach)]
            for house in houses:
                told = pins(house)
                self.are_pins(house, told)
                keeping = [other for other in houses if all(keeps(other, saying) for saying in told)]
                self.assertEqual(keeping, [house])

    def test_no_near_house_keeps_them(self):
        for house in [house for house, _, _ in small_houses()] + great_houses():
            told = pins(house)
            self.are_pins(house, told)
            beginning = house.beginning()
            for at, other in itertools.product(range(len(beginning)), repeat=2):
                near = list(beginning)
                near[at] += 1
                near[other] = max(1, near[other] - 1)
                near_house = House(house.base(), near)
                self.assertIs(all(keeps(near_house, saying) for saying in told), near_house == house)

    def test_one_less_pins_no_more(self):
        """Told of few houses: of k 2 both pins are needed."""
        for many in (2, 3, FAR):
            told = pins(House(2, [many]))
            self.assertEqual(len(told), 2)
            for saying in told:
                least, greatest = reaches(2, [saying])
                self.assertTrue(least < many - 1 or greatest is None)

    def test_by_name_and_the_askers_own(self):
        house = House(3, [2, 3])
        told = pins(house=house)
        self.assertEqual(told, pins(house))
        told.append(1)
        self.assertNotEqual(told, pins(house))


if __name__ == "__main__":
    unittest.main()
