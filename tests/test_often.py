"""How often, sums ([13], and what [2], [4] say of them)."""

import random
import unittest
from bisect import bisect_left

from askback.house import House
from askback.often import how_many_said, least_place, nth_said, sum_upto
from tests.plain import FAR, far_numbers, great_houses, said_by_rule, small_houses

UPTO = 400


def times_by_rule(by_rule):
    """A dict of how many times each number is said that is said out in these."""
    times = {}
    for number in by_rule[1:]:
        times[number] = times.get(number, 0) + 1
    del times[by_rule[-1]]
    return times


class CountedTest(unittest.TestCase):
    def test_against_going_one_by_one(self):
        for house, k, beginning in small_houses():
            times = times_by_rule(said_by_rule(k, beginning, UPTO))
            for many in list(range(1, 15)) + beginning + [600]:
                such = [number for number in times if times[number] == many]
                for bound in list(range(0, len(times), 5)) + [len(times)]:
                    told = how_many_said(house, many, bound)
                    self.assertEqual(told, len([number for number in such if number <= bound]))
                for at, number in enumerate(such):
                    self.assertEqual(nth_said(house, many, at), number)

    def test_up_to_nought_there_is_none(self):
        for house in great_houses():
            for many in (1, 2, 10 ** 100, FAR):
                self.assertEqual(how_many_said(house, many, 0), 0)

    def test_times_however_great(self):
        house = House(3, [1, 10 ** 50])
        self.assertEqual(how_many_said(house, FAR, FAR), 0)
        self.assertEqual(how_many_said(house, 10 ** 50, 1), 0)
        self.assertEqual(how_many_said(house, 10 ** 50, 2), 1)
        self.assertEqual(how_many_said(house, 10 ** 50 + 7, 2 * 3 ** 7 - 1), 0)
        self.assertEqual(how_many_said(house, 10 ** 50 + 7, 2 * 3 ** 7), 1)
        self.assertEqual(how_many_said(house, 10 ** 50 + 7, FAR), 1)
        self.assertEqual(how_many_said(House(30, [FAR] * 29), FAR, FAR), 29)
        self.assertEqual(how_many_said(House(30, [FAR] * 29), FAR, 28), 28)

    def test_counted_and_numbered_hang_together_far_off(self):
        for house in great_houses():
            for many in (1, 2, 3, 57, 200):
                for at in [0, 1, 28, 29, 30, 31, 10 ** 30, FAR - 1, FAR]:
                    number = nth_said(house, many, at)
                    self.assertEqual(house.times(number), many)
                    self.assertEqual(how_many_said(house, many, number), at + 1)
                    self.assertEqual(how_many_said(house, many, number - 1), at)

    def test_numbers_rise(self):
        for house in great_houses():
            for many in (1, 2, 5, 200):
                numbers = [nth_said(house, many, at) for at in range(100)]
                self.assertEqual(numbers, sorted(set(numbers)))

    def test_all_counts_together_are_all_numbers_and_all_places(self):
        for k, beginning in [(2, [1]), (2, [3]), (3, [2, 7]), (10, [1, 2, 3, 4, 5, 4, 3, 2, 1]), (30, [1] * 29)]:
            house = House(k, beginning)
            for bound in far_numbers()[::4] + [2 ** 600, 30 ** 100 - 1]:
                counts = [how_many_said(house, many, bound) for many in range(1, 690)]
                self.assertEqual(sum(counts), bound)
                folk = sum(many * count for many, count in enumerate(counts, start=1))
                self.assertEqual(folk, house.last_place(bound))

    def test_counting_rises_where_the_number_is_said_so_many_times(self):
        for house in great_houses():
            for number in far_numbers():
                for many in (1, 2, house.times(number)):
                    risen = how_many_said(house, many, number) - how_many_said(house, many, number - 1)
                    self.assertEqual(risen, int(house.times(number) == many))


class SummedTest(unittest.TestCase):
    def test_against_going_one_by_one(self):
        for house, k, beginning in small_houses():
            by_rule = said_by_rule(k, beginning, UPTO)
            sums = [0]
            for number in by_rule[1:]:
                sums.append(sums[-1] + number)
            self.assertEqual([sum_upto(house, place) for place in range(UPTO + 1)], sums)
            for total in list(range(1, 200)) + sums[1::7] + [sums[-1] - 1, sums[-1]]:
                self.assertEqual(least_place(house, total), bisect_left(sums, total))

    def test_of_place_nought(self):
        for house in great_houses():
            self.assertEqual(sum_upto(house, 0), 0)
            self.assertEqual(least_place(house, 1), 1)

    def test_far_sums_rise_by_what_is_said(self):
        for house in great_houses():
            for number in far_numbers():
                for place in (number, house.first_place(number), house.last_place(number)):
                    risen = sum_upto(house, place) - sum_upto(house, place - 1)
                    self.assertEqual(risen, house.said(place))

    def test_far_sums_over_whole_numbers(self):
        for house in great_houses():
            for number in far_numbers():
                ahead = sum_upto(house, house.first_place(number) - 1)
                risen = sum_upto(house, house.last_place(number)) - ahead
                self.assertEqual(risen, number * house.times(number))

    def test_far_sums_by_adding_up_the_multiples(self):
        # Each number says itself once for each power of k that divides it, and the beginning's numbers more.
        for house in great_houses():
            k = house.base()
            for number in far_numbers():
                total = 0
                for exponent in range(670):
                    power = k ** exponent
                    many = number // power
                    total += power * many * (many + 1) // 2
                    for sign, early in enumerate(house.beginning(), start=1):
                        if sign <= many:
                            total += sign * power * (early - 1)
                self.assertEqual(sum_upto(house, house.last_place(number)), total)

    def test_summed_and_least_place_hang_together_far_off(self):
        chance = random.Random(22)
        for house in great_houses():
            totals = far_numbers() + [sum_upto(house, number) for number in far_numbers()]
            totals += [chance.randrange(10 ** 399, 10 ** 400)]
            for total in totals:
                place = least_place(house, total)
                self.assertGreaterEqual(sum_upto(house, place), total)
                self.assertLess(sum_upto(house, place - 1), total)

    def test_least_place_of_a_sum_and_its_neighbours(self):
        for house in great_houses():
            for place in far_numbers():
                total = sum_upto(house, place)
                self.assertEqual(least_place(house, total), place)
                self.assertEqual(least_place(house, total + 1), place + 1)
                if house.said(place) > 1:
                    self.assertEqual(least_place(house, total - 1), place)


class NamesTest(unittest.TestCase):
    def test_by_places_and_by_names(self):
        house = House(2, [2])
        self.assertEqual(how_many_said(house, 2, 20), 5)
        self.assertEqual(how_many_said(upto=20, times=2, house=house), 5)
        self.assertEqual(nth_said(house, 2, 1), 6)
        self.assertEqual(nth_said(place=1, times=2, house=house), 6)
        self.assertEqual(sum_upto(house, 6), 11)
        self.assertEqual(sum_upto(place=6, house=house), 11)
        self.assertEqual(least_place(house, 9), 6)
        self.assertEqual(least_place(total=9, house=house), 6)

    def test_nothing_handed_in_is_changed(self):
        house = House(3, [2, 3])
        how_many_said(house, 2, 50)
        nth_said(house, 2, 50)
        sum_upto(house, 50)
        least_place(house, 50)
        self.assertTrue(house == House(3, [2, 3]))
        self.assertEqual([house.said(place) for place in range(1, 9)], [1, 1, 2, 2, 2, 3, 3, 3])


if __name__ == "__main__":
    unittest.main()
