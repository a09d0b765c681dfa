"""How many houses keep sayings, and which ([24], and what [2], [3], [4] say of them)."""

import copy
import random
import unittest

from askback.counted import how_many, nth_house
from askback.errors import BadHouse, BadSaying, Beyond
from askback.follows import may_be
from askback.house import House
from askback.sightings import greatest_house, keeps, least_house
from tests.plain import FAR, AllHouses, far_sayings, great_houses, refuses_no_k_then_no_sayings

ALL = [AllHouses(2, 12), AllHouses(3, 9), AllHouses(4, 7), AllHouses(5, 5)]


def contrary(saying):
    word, place, number = saying
    return ("at least", place, number + 1) if word == "at most" else ("at most", place, number - 1)


def far_rows():
    """(k, sayings, reach) with great reaches, and many houses of them."""
    chance = random.Random(241)
    rows = []
    for house in great_houses():
        k, reach = house.base(), house.reach()
        rows.append((k, [], reach))
        rows.append((k, far_sayings(house, chance, 3, 2), reach))
        rows.append((k, far_sayings(house, chance, 60, 10 ** chance.randrange(1, 60)), reach))
        rows.append((k, far_sayings(house, chance, 20), 10 ** chance.randrange(200)))
    return rows


class CountTest(unittest.TestCase):
    def test_against_all_houses_gone_one_by_one(self):
        chance = random.Random(242)
        some = 0
        for houses in ALL:
            for _ in range(80):
                sayings = houses.some_sayings(chance, 6)
                for reach in range(houses.upto + 2):
                    found = sorted(beginning for beginning, _ in houses.keeping(sayings, reach))
                    self.assertEqual(how_many(houses.k, sayings, reach), len(found))
                    self.assertEqual(how_many(houses.k, tuple(sayings), reach), len(found))
                    some += len(found) > 3
                    for place, beginning in enumerate(found):
                        house = nth_house(houses.k, sayings, reach, place)
                        self.assertEqual(house, House(houses.k, beginning))
                    self.beyond(houses.k, sayings, reach, len(found))
                    self.beyond(houses.k, sayings, reach, len(found) + 7)
        self.assertGreater(some, 300)

    def beyond(self, k, sayings, reach, place):
        with self.assertRaises(Beyond) as caught:
            nth_house(k, sayings, reach, place)
        self.assertEqual(caught.exception.place, place)
        self.assertIs(type(caught.exception.place), int)

    def test_none(self):
        none = [("at least", 1, 2)]
        for k in (2, 3, 30):
            for reach in (0, 1, 10 ** 150):
                self.assertEqual(how_many(k, none, reach), 0)
                self.beyond(k, none, reach, 0)
                self.beyond(k, none, reach, FAR)
        self.assertEqual(how_many(2, [("at most", 9, 3)], 0), 0)

    def test_one_house_of_a_reach(self):
        for reach in (0, 7, FAR):
            self.assertEqual(how_many(2, [], reach), 1)
            self.assertEqual(nth_house(2, [], reach, 0), House(2, [reach + 1]))
            self.beyond(2, [], reach, 1)
        for k in (3, 11, 30):
            self.assertEqual(how_many(k, [], 0), 1)
            self.assertEqual(nth_house(k, [], 0, 0), House(k, [1] * (k - 1)))

    def test_all_of_a_great_reach(self):
        # Of k 3 the first number is anything up to the reach and one; of k 4 there are that many and one, over two.
        self.assertEqual(how_many(3, [], FAR), FAR + 1)
        self.assertEqual(nth_house(3, [], FAR, 12345), House(3, [12346, FAR - 12344]))
        self.assertEqual(how_many(4, [], FAR), (FAR + 1) * (FAR + 2) // 2)
        self.assertEqual(nth_house(4, [], FAR, FAR), House(4, [1, FAR + 1, 1]))
        self.assertEqual(nth_house(4, [], FAR, FAR + 1), House(4, [2, 1, FAR]))

    def test_with_a_saying_and_with_its_contrary_are_all(self):
        chance = random.Random(243)
        for k, sayings, reach in far_rows():
            many = how_many(k, sayings, reach)
            for _ in range(3):
                place = chance.randrange(1, 10 ** chance.randrange(1, 200))
                saying = (chance.choice(["at most", "at least"]), place, chance.randrange(2, place + 9))
                if many and chance.random() < 0.8:
                    least, greatest = may_be(k, sayings, place, reach=reach)
                    saying = (saying[0], place, max(2, chance.randrange(least, greatest + 1)))
                both = [how_many(k, [*sayings, one], reach) for one in (saying, contrary(saying))]
                self.assertEqual(sum(both), many)

    def test_which_of_a_great_reach(self):
        chance = random.Random(244)
        found = 0
        for k, sayings, reach in far_rows()[::2] + far_rows()[1:12:2]:
            many = how_many(k, sayings, reach)
            for place in (many, many + 1, many + 10 ** 60):
                self.beyond(k, sayings, reach, place)
            if not many:
                continue
            ahead = None
            for place in sorted({0, many - 1, chance.randrange(many)}):
                house = nth_house(k, sayings, reach, place)
                found += 1
                self.assertEqual((house.base(), house.reach()), (k, reach))
                self.assertTrue(all(keeps(house, saying) for saying in sayings))
                self.assertTrue(ahead is None or ahead < house.beginning())
                ahead = house.beginning()
                self.assertEqual(self.number_ahead(k, sayings, house), place)
        self.assertGreater(found, 30)

    def number_ahead(self, k, sayings, house):
        """How many of the houses are ahead of this one, told by how many there are with pinned first numbers."""
        ahead, pinned, last = 0, [], 0
        for number, many in enumerate(house.beginning()[:-1], start=1):
            # The last place of a number of the beginning is what the numbers up to it come to.
            last += many
            if last > number:
                lower = ("at least", last, number + 1)
                ahead += how_many(k, [*sayings, *pinned, lower], house.reach())
            pinned += [("at most", last, number), ("at least", last + 1, number + 1)]
        return ahead

    def test_first_and_last(self):
        # Where sums are the least all through, beginnings are, too; so are they where these are the greatest.
        for k, sayings, reach in far_rows():
            many = how_many(k, sayings, reach)
            if many:
                self.assertEqual(nth_house(k, sayings, reach, 0), greatest_house(k, sayings, reach))
                self.assertEqual(nth_house(k, sayings, reach, many - 1), least_house(k, sayings, reach))

    def test_two_hundred_sayings(self):
        chance = random.Random(245)
        for house in great_houses():
            sayings = far_sayings(house, chance, 200, 10 ** 30)
            many = how_many(house.base(), sayings, house.reach())
            self.assertGreaterEqual(many, 1)
            self.assertEqual(how_many(house.base(), sayings[::-1] + sayings[:50], house.reach()), many)
            self.beyond(house.base(), sayings, house.reach(), many)


class RefusalTest(unittest.TestCase):
    def test_k_ahead_of_all_else_then_the_first_that_is_no_saying(self):
        refuses_no_k_then_no_sayings(self, lambda k, sayings: how_many(k, sayings, 3))
        refuses_no_k_then_no_sayings(self, lambda k, sayings: nth_house(k, sayings, 3, 0))
        refuses_no_k_then_no_sayings(self, lambda k, sayings: nth_house(k, sayings, 3, 10 ** 100))
        self.assertRaises(BadHouse, nth_house, 1, [None], 0, 99)
        self.assertRaises(BadSaying, nth_house, 2, [None], 0, 99)

    def test_by_names_and_nothing_changed(self):
        sayings = [("at most", 9, 4), ("at least", 40, 14)]
        held = copy.deepcopy(sayings)
        self.assertEqual(how_many(reach=3, sayings=sayings, k=3), how_many(3, sayings, 3))
        house = nth_house(place=1, reach=3, sayings=sayings, k=3)
        self.assertEqual(house, nth_house(3, sayings, 3, 1))
        self.assertEqual(house, nth_house(3, tuple(sayings), 3, 1))
        house.beginning().append(1)
        self.assertEqual(house, nth_house(3, sayings, 3, 1))
        self.assertEqual(sayings, held)


if __name__ == "__main__":
    unittest.main()
