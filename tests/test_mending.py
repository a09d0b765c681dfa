"""Mending ([26], and what [2], [3], [4] say of it)."""

import copy
import random
import unittest

from askback.bars import shows_bar
from askback.house import House
from askback.mending import least_mend, mend, shows_mend
from askback.sightings import keeps, least_house, reaches
from tests.otherwise import ANYTHING, as_tuples, variants
from tests.plain import FAR, AllHouses, far_sayings, great_houses, is_as_told, refuses_no_k_then_no_sayings

ALL = [AllHouses(2, 12), AllHouses(3, 9), AllHouses(4, 7), AllHouses(5, 5)]


def some_prices(chance, sayings):
    """None, or a price for each saying, small ones and great ones."""
    kind = chance.randrange(4)
    if kind == 0:
        return None
    most = [3, 9, 10 ** 60][kind - 1]
    return [chance.randrange(1, most + 1) for _ in sayings]


def costs_of(sayings, prices):
    return [1] * len(sayings) if prices is None else prices


def least_price_by_rule(houses, sayings, reach, costs):
    """The price of what no house of the reach has to keep, where it is the least."""
    return min(sum(cost for saying, cost in zip(sayings, costs) if not houses_keep(said, saying))
               for _, said in houses.by_reach[reach])


def houses_keep(said, saying):
    word, place, number = saying
    return said[place] <= number if word == "at most" else said[place] >= number


def are_places(thing, many, most):
    return (type(thing) in (list, tuple) and len(thing) <= most
            and all(type(place) is int and 0 <= place < many for place in thing)
            and list(thing) == sorted(set(thing)))


def may_be_told(houses, sayings, reach, prices, thing):
    """Whether the thing may be told, as [26] says it."""
    costs, many = costs_of(sayings, prices), len(sayings)
    if type(thing) is not tuple or len(thing) != 2:
        return False
    left, clashes = thing
    if not are_places(left, many, many) or type(clashes) not in (list, tuple):
        return False
    if not houses.keeping([saying for place, saying in enumerate(sayings) if place not in left], reach):
        return False
    borne = [0] * many
    for clash in clashes:
        if type(clash) is not tuple or len(clash) != 2:
            return False
        bar, amount = clash
        if not are_places(bar, many, 2) or not bar or type(amount) is not int or amount < 1:
            return False
        if houses.keeping([sayings[place] for place in bar], reach):
            return False
        for place in bar:
            borne[place] += amount
    return (all(one <= cost for one, cost in zip(borne, costs))
            and sum(amount for _, amount in clashes) == sum(costs[place] for place in left))


def far_rows():
    """(k, sayings, reach) of which many can be kept together, and some can't."""
    chance = random.Random(261)
    rows = []
    for house in great_houses():
        k = house.base()
        other = House(k, [chance.randrange(1, 10 ** 80) for _ in range(k - 1)])
        for many in (3, 60):
            sayings = far_sayings(house, chance, 120, 10 ** 40) + far_sayings(other, chance, many, 10 ** 40)
            chance.shuffle(sayings)
            rows.append((k, sayings, chance.choice([0, house.reach(), other.reach(), 10 ** 60])))
    return rows


class MendTest(unittest.TestCase):
    def test_against_all_choices_gone_one_by_one(self):
        chance = random.Random(262)
        for houses in ALL:
            for _ in range(60):
                sayings = houses.some_sayings(chance, 8)
                prices = some_prices(chance, sayings)
                costs = costs_of(sayings, prices)
                for reach in range(houses.upto + 2):
                    told = mend(houses.k, sayings, reach, prices=prices)
                    self.assertTrue(is_as_told(told))
                    self.assertTrue(may_be_told(houses, sayings, reach, prices, told), (sayings, reach, prices, told))
                    self.assertEqual(sum(costs[place] for place in told[0]),
                                     least_price_by_rule(houses, sayings, reach, costs))
                    self.assertIs(shows_mend(houses.k, sayings, reach, told, prices=prices), True)
                    self.assertIs(shows_mend(houses.k, tuple(sayings), reach, as_tuples(told), prices=prices), True)

    def test_nothing_left_out_where_some_house_keeps_all(self):
        self.assertEqual(mend(3, [], 7), ([], []))
        self.assertEqual(mend(3, [("at most", 9, 4), ("at least", 40, 14)], 3), ([], []))
        self.assertEqual(mend(3, [("at most", 9, 4), ("at least", 40, 14)], 11)[0], [1])
        self.assertEqual(mend(3, [], FAR, prices=[]), ([], []))

    def test_sayings_that_alone_no_house_keeps(self):
        sayings = [("at least", 1, 2), ("at most", 9, 9), ("at least", 9, 10)]
        for reach in (0, 4, 10 ** 90):
            self.assertEqual(mend(5, sayings, reach)[0], [0, 2])
            self.assertEqual(mend(5, sayings, reach, prices=[7, 1, FAR])[0], [0, 2])
            self.assertIs(shows_mend(5, sayings, reach, ([0, 2], [([0], 1), ([2], 1)])), True)
            right = ([0, 2], [([0], 7), ([2], FAR)])
            self.assertIs(shows_mend(5, sayings, reach, right, prices=[7, 1, FAR]), True)
            self.assertIs(shows_mend(5, sayings, reach, right, prices=[7, 1, FAR - 1]), False)
            self.assertIs(shows_mend(5, sayings, reach, right), False)

    def test_prices_tell_which(self):
        sayings = [("at most", 9, 4), ("at least", 9, 5), ("at least", 9, 6)]
        self.assertEqual(mend(3, sayings, 2)[0], [0])
        self.assertEqual(mend(3, sayings, 2, prices=[5, 2, 1])[0], [1, 2])
        self.assertEqual(mend(3, sayings, 2, prices=(5, 2, 9))[0], [0])
        left, clashes = mend(3, sayings, 2, prices=[5 * FAR, 2 * FAR, FAR])
        self.assertEqual((left, sorted(clashes)), ([1, 2], [([0, 1], 2 * FAR), ([0, 2], FAR)]))

    def test_far(self):
        chance = random.Random(263)
        for k, sayings, reach in far_rows():
            for prices in (None, [chance.randrange(1, 10 ** 190) for _ in sayings]):
                costs = costs_of(sayings, prices)
                left, clashes = mend(k, sayings, reach, prices=prices)
                self.assertTrue(are_places(left, len(sayings), 200))
                house = least_house(k, [saying for at, saying in enumerate(sayings) if at not in left], reach)
                self.assertIsNotNone(house)
                self.assertTrue(all(keeps(house, saying) for at, saying in enumerate(sayings) if at not in left))
                borne = [0] * len(sayings)
                for bar, amount in clashes:
                    self.assertIs(shows_bar(k, sayings, bar, reach=reach), True)
                    self.assertTrue(bar and amount >= 1)
                    for place in bar:
                        borne[place] += amount
                self.assertTrue(all(one <= cost for one, cost in zip(borne, costs)))
                self.assertEqual(sum(amount for _, amount in clashes), sum(costs[place] for place in left))
                self.assertIs(shows_mend(k, sayings, reach, (left, clashes), prices=prices), True)
                if left:
                    self.assertIs(shows_mend(k, sayings, reach, (left, clashes[1:]), prices=prices), False)
                    self.assertIs(shows_mend(k, sayings, reach, (left[1:], clashes), prices=prices), False)
                    self.assertIs(shows_mend(k, sayings, reach + 1, (left, clashes), prices=prices),
                                  all(shows_bar(k, sayings, bar, reach=reach + 1) for bar, _ in clashes)
                                  and least_house(k, [saying for at, saying in enumerate(sayings) if at not in left],
                                                  reach + 1) is not None)

    def test_two_hundred_of_which_a_few_say_otherwise(self):
        chance = random.Random(264)
        for house in great_houses():
            k = house.base()
            sayings = far_sayings(house, chance, 195)
            for _ in range(5):
                place = chance.randrange(house.folk(), FAR * 30)
                wrong = ("at least", place, house.said(place) + 1)
                sayings.insert(chance.randrange(len(sayings)), wrong)
            left, _ = mend(k, sayings, house.reach())
            self.assertLessEqual(len(left), 5)
            reach, price = least_mend(k, sayings)
            self.assertLessEqual(price, len(left))
            self.assertEqual(len(mend(k, sayings, reach)[0]), price)


class LookTest(unittest.TestCase):
    def test_let_by_just_what_may_be_told(self):
        chance = random.Random(265)
        let_by = looked_at = 0
        for houses in ALL:
            for _ in range(12):
                sayings = houses.some_sayings(chance, 6)
                prices = some_prices(chance, sayings)
                reach = chance.randrange(houses.upto + 2)
                left, clashes = mend(houses.k, sayings, reach, prices=prices)
                others = [(left, clashes[::-1]), (left, split_amounts(clashes)),
                          mend(houses.k, sayings[::-1], reach, prices=prices and prices[::-1])]
                for right in [(left, clashes)] + others:
                    let = may_be_told(houses, sayings, reach, prices, right)
                    self.assertIs(shows_mend(houses.k, sayings, reach, right, prices=prices), let)
                    self.assertTrue(let or right is others[2])
                    for thing in variants(right, 3):
                        let = may_be_told(houses, sayings, reach, prices, thing)
                        self.assertIs(shows_mend(houses.k, sayings, reach, thing, prices=prices), let,
                                      (sayings, reach, prices, thing))
                        let_by += let
                        looked_at += 1
                for thing in ANYTHING:
                    let = may_be_told(houses, sayings, reach, prices, thing)
                    self.assertIs(shows_mend(houses.k, sayings, reach, thing, prices=prices), let)
        self.assertGreater(looked_at, 5000)
        self.assertGreater(let_by, 10)

    def test_other_answers_that_may_be_told(self):
        # Either of two may be left out, and a bar may have one more saying than it needs.
        sayings = [("at most", 9, 4), ("at least", 9, 5)]
        for left in ([0], [1], (0,), (1,)):
            for clashes in ([([0, 1], 1)], (((0, 1), 1),)):
                self.assertIs(shows_mend(3, sayings, 3, (left, clashes)), True)
                self.assertIs(shows_mend(3, sayings, 3, (left, clashes), prices=[4, 4]), False)
        self.assertIs(shows_mend(3, sayings, 3, ([0], [([0, 1], 2), ([0, 1], 2)]), prices=[4, 5]), True)
        self.assertIs(shows_mend(3, sayings, 3, ([1], [([0, 1], 4)]), prices=[4, 5]), False)
        sayings = [("at least", 1, 2), ("at most", 9, 4)]
        self.assertIs(shows_mend(3, sayings, 3, ([0], [([0, 1], 1)])), True)
        self.assertIs(shows_mend(3, sayings, 3, ([0], [([0], 1)])), True)
        self.assertIs(shows_mend(3, sayings, 3, ([0, 1], [([0], 1)])), False)

    def test_wrong_ones(self):
        sayings = [("at most", 9, 4), ("at least", 9, 5), ("at least", 9, 6)]
        right = ([0], [([0, 1], 1)])
        self.assertIs(shows_mend(3, sayings, 2, right), True)
        for wrong in (list(right), ([0], [[[0, 1], 1]]), ([False], [([0, 1], 1)]), ([0], [([False, True], 1)]),
                      ([0], [([0, 1], True)]), ([0], [([1, 0], 1)]), ([0], [([0, 0], 1)]), ([0], [([], 1)]),
                      ([0], [([0, 1, 2], 1)]), ([0], [([1, 2], 1)]), ([0], [([0, 1], 1), ([0, 2], 1)]),
                      ([0], [([0, 1], 0), ([0, 2], 1)]), ([0], [([0, 1], 2), ([0, 2], -1)]), ([0], []), ([], []),
                      ([0, 0], [([0, 1], 1)]), ([0, 1], [([0, 1], 1)]), ([1, 0], [([0, 1], 1)]), ([3], [([0, 1], 1)]),
                      ([0], [([0, 3], 1)]), ([0], ([0, 1], 1)), (0, [([0, 1], 1)]), ([0], {0: ([0, 1], 1)}),
                      ([0], [([0, 1], 1)], 1), ([0], [([0, 1], 1, 1)]), ([0], [([0, 1],)])):
            self.assertIs(shows_mend(3, sayings, 2, wrong), False, wrong)


def split_amounts(clashes):
    """The same amounts, each bar of more than 1 told twice."""
    found = []
    for bar, amount in clashes:
        found += [(bar, amount)] if amount == 1 else [(bar, 1), (bar, amount - 1)]
    return found


class LeastTest(unittest.TestCase):
    def test_against_all_houses_gone_one_by_one(self):
        chance = random.Random(266)
        later = 0
        for houses in ALL:
            for _ in range(150):
                sayings = houses.some_sayings(chance, 8)
                prices = some_prices(chance, sayings)
                costs = costs_of(sayings, prices)
                by_reach = [least_price_by_rule(houses, sayings, reach, costs) for reach in range(houses.upto + 2)]
                least = min(by_reach)
                self.assertEqual(least_mend(houses.k, sayings, prices=prices), (by_reach.index(least), least))
                later += by_reach.index(least) > 0 and least > 0
        self.assertGreater(later, 50)

    def test_all_kept(self):
        chance = random.Random(267)
        self.assertEqual(least_mend(3, []), (0, 0))
        for house in great_houses():
            sayings = far_sayings(house, chance, 200, 10 ** 30)
            self.assertEqual(least_mend(house.base(), sayings), (reaches(house.base(), sayings)[0], 0))

    def test_far(self):
        chance = random.Random(268)
        for k, sayings, _ in far_rows():
            for prices in (None, [chance.randrange(1, FAR) for _ in sayings]):
                costs = costs_of(sayings, prices)
                reach, price = least_mend(k, sayings, prices=prices)
                self.assertTrue(is_as_told((reach, price)))
                self.assertEqual(sum(costs[at] for at in mend(k, sayings, reach, prices=prices)[0]), price)
                if reach:
                    self.assertGreater(sum(costs[at] for at in mend(k, sayings, reach - 1, prices=prices)[0]), price)
                nears = [near for near in (0, 1, reach // 2, reach - 9, reach + 1, reach + 9, 2 * reach, 10 ** 60, FAR,
                                           chance.randrange(10 ** 80), chance.randrange(reach + 1)) if near >= 0]
                for near in nears:
                    other = sum(costs[at] for at in mend(k, sayings, near, prices=prices)[0])
                    self.assertTrue(other > price if near < reach else other >= price)

    def test_the_dearest_are_kept(self):
        # No house keeps the two together; whichever is the dearer is kept, at the least reach that lets be all else.
        sayings = [("at most", 3 * FAR, 2), ("at least", 3 * FAR, 3), ("at most", FAR, 1)]
        reach, price = least_mend(3, sayings, prices=[1, 10 ** 190, 10 ** 190])
        self.assertEqual((reach, price), (reaches(3, sayings[1:])[0], 1))
        reach, price = least_mend(3, sayings, prices=[10 ** 190, 1, 10 ** 190])
        self.assertEqual((reach, price), (reaches(3, sayings[::2])[0], 1))


class RefusalTest(unittest.TestCase):
    def test_k_ahead_of_all_else_then_the_first_that_is_no_saying(self):
        refuses_no_k_then_no_sayings(self, lambda k, sayings: mend(k, sayings, 3))
        refuses_no_k_then_no_sayings(self, lambda k, sayings: shows_mend(k, sayings, 3, ([], [])))
        refuses_no_k_then_no_sayings(self, lambda k, sayings: shows_mend(k, sayings, 3, None, prices=[1, 2]))
        refuses_no_k_then_no_sayings(self, least_mend)
        refuses_no_k_then_no_sayings(self, lambda k, sayings: mend(k, sayings, 3, prices=[1]))

    def test_by_names_and_nothing_changed(self):
        sayings, prices = [("at most", 9, 4), ("at least", 9, 5), ("at least", 9, 6)], [5, 2, 1]
        held = copy.deepcopy((sayings, prices))
        told = mend(prices=prices, reach=3, sayings=sayings, k=3)
        self.assertEqual(told, mend(3, sayings, 3, prices=prices))
        self.assertEqual(told, mend(3, tuple(sayings), 3, prices=tuple(prices)))
        self.assertIs(shows_mend(prices=prices, thing=told, reach=3, sayings=sayings, k=3), True)
        self.assertEqual(least_mend(prices=prices, sayings=sayings, k=3), least_mend(3, sayings, prices=prices))
        first = copy.deepcopy(told)
        told[0].append(1)
        told[1].append(1)
        self.assertEqual(mend(3, sayings, 3, prices=prices), first)
        self.assertEqual((sayings, prices), held)
        for call in (lambda: mend(3, sayings, 3, prices), lambda: least_mend(3, sayings, prices),
                     lambda: shows_mend(3, sayings, 3, told, prices)):
            self.assertRaises(TypeError, call)


if __name__ == "__main__":
    unittest.main()
