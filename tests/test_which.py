"""Which k have a house that keeps sayings, and what is to blame where one has none ([25], [2], [3], [4])."""

import copy
import random
import unittest

from askback.errors import BadSaying, NoBar
from askback.house import House
from askback.sightings import keeps, least_house, reaches
from askback.which import blame, which
from tests.plain import (
    FAR,
    NO_LISTS,
    NO_SAYINGS,
    AllHouses,
    far_sayings,
    great_houses,
    is_as_told,
    refuses_no_k_then_no_sayings,
)

ALL = [AllHouses(2, 12), AllHouses(3, 9), AllHouses(4, 7)]

UPTO = 6
BY_K = {k: AllHouses(k, UPTO) for k in range(2, 7)}


class WhichTest(unittest.TestCase):
    def test_against_all_houses_gone_one_by_one(self):
        chance = random.Random(251)
        told = set()
        for _ in range(300):
            sayings = BY_K[2].some_sayings(chance, 5)
            found = []
            for k, houses in BY_K.items():
                ends = houses.reaches(sayings)
                if ends is not None:
                    found.append((k, ends[0]))
            for most in range(2, 7):
                self.assertEqual(which(sayings, most), [row for row in found if row[0] <= most])
            told.add(tuple(found))
        self.assertGreater(len(told), 20)

    def test_all_k(self):
        for most in range(2, 31):
            self.assertEqual(which([], most), [(k, 0) for k in range(2, most + 1)])
            self.assertEqual(which([("at least", 1, 2)], most), [])
        # Numbers below k are each said once at least, so what is said at place 12 is 12 only from k 12 on.
        self.assertEqual(which([("at least", 12, 12)], 30), [(k, 0) for k in range(12, 31)])
        self.assertEqual(which([("at most", 5, 1)], 30), [(k, 4) for k in range(2, 31)])

    def test_far(self):
        chance = random.Random(252)
        for house in great_houses():
            sayings = far_sayings(house, chance, 40, 10 ** chance.choice([1, 3, 40, 100]))
            found = which(sayings, 30)
            self.assertTrue(is_as_told(found))
            self.assertTrue(all(type(row) is tuple for row in found))
            self.assertIn(house.base(), [k for k, _ in found])
            for k in range(2, 31):
                ends = reaches(k, sayings)
                self.assertEqual([least for one, least in found if one == k], [] if ends is None else [ends[0]])
            for k, least in found:
                kept_by = least_house(k, sayings, least)
                self.assertTrue(all(keeps(kept_by, saying) for saying in sayings))
                self.assertTrue(least == 0 or least_house(k, sayings, least - 1) is None)

    def test_refusals(self):
        good = ("at most", 3, 2)
        for wrong in NO_LISTS + [good]:
            self.refused(0, wrong)
        for wrong in NO_SAYINGS:
            self.refused(0, [wrong])
            self.refused(2, (good, good, wrong, None))

    def refused(self, place, sayings):
        for most in (2, 30):
            with self.assertRaises(BadSaying) as caught:
                which(sayings, most)
            self.assertEqual(caught.exception.place, place)

    def test_by_names(self):
        sayings = [("at most", 9, 4), ("at least", 40, 14)]
        held = copy.deepcopy(sayings)
        found = which(most=9, sayings=sayings)
        self.assertEqual(found, which(sayings, 9))
        self.assertEqual(found, which(tuple(sayings), 9))
        found.append(1)
        self.assertNotEqual(found, which(sayings, 9))
        self.assertEqual(sayings, held)


class BlameTest(unittest.TestCase):
    def is_to_blame(self, found, sayings, is_some_house):
        self.assertIs(type(found), list)
        self.assertTrue(found)
        self.assertTrue(all(type(place) is int and 0 <= place < len(sayings) for place in found))
        self.assertEqual(found, sorted(set(found)))
        self.assertFalse(is_some_house([sayings[place] for place in found]))
        for left_out in found:
            self.assertTrue(is_some_house([sayings[place] for place in found if place != left_out]))

    def test_against_all_houses_gone_one_by_one(self):
        chance = random.Random(253)
        lengths = set()
        for houses in ALL:
            for _ in range(300):
                sayings = houses.some_sayings(chance, 9)
                if houses.reaches(sayings) is not None:
                    self.assertRaises(NoBar, blame, houses.k, sayings)
                    continue
                found = blame(houses.k, sayings)
                lengths.add(len(found))
                self.is_to_blame(found, sayings, lambda some: houses.reaches(some) is not None)
                self.assertEqual(blame(houses.k, tuple(sayings)), found)
        self.assertTrue({1, 2} <= lengths)

    def test_all_four_of_a_bar(self):
        sayings = [("at most", 66, 32), ("at least", 25, 9), ("at most", 5, 1), ("at least", 18, 5)]
        self.assertEqual(blame(4, sayings), [0, 1, 2, 3])
        # Of these four two are to blame already.
        self.assertEqual(blame(4, sayings[:3] + [("at least", 5, 2)]), [2, 3])

    def test_some_saying_that_alone_none_keeps(self):
        self.assertEqual(blame(3, [("at most", 4, 9), ("at least", 1, 2), ("at most", 9, 9)]), [1])
        self.assertRaises(NoBar, blame, 3, [])
        self.assertRaises(NoBar, blame, 3, [("at least", 9, 1)])

    def test_far(self):
        chance = random.Random(254)
        for house in great_houses():
            k = house.base()
            self.assertRaises(NoBar, blame, k, far_sayings(house, chance, 200))
            other = House(k, [chance.randrange(1, 10 ** 80) for _ in range(k - 1)])
            wrong = ("at least", FAR // 3, house.said(FAR) + 1)
            for more in (far_sayings(other, chance, 100, 10 ** 80), [wrong], [("at least", FAR, FAR + 1)]):
                sayings = far_sayings(house, chance, 100, 10 ** 80) + more
                if reaches(k, sayings) is None:
                    self.is_to_blame(blame(k, sayings), sayings, lambda some: reaches(k, some) is not None)

    def test_refusals_and_names(self):
        refuses_no_k_then_no_sayings(self, blame)
        sayings = [("at most", 9, 4), ("at least", 9, 5)]
        self.assertEqual(blame(sayings=sayings, k=3), [0, 1])
        self.assertEqual(sayings, [("at most", 9, 4), ("at least", 9, 5)])
        with self.assertRaises(NoBar) as caught:
            blame(3, sayings[:1])
        self.assertIs(type(caught.exception), NoBar)


if __name__ == "__main__":
    unittest.main()
