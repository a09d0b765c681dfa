"""Houses ([11], [12], and what [1], [2], [3], [4] say of them)."""

import unittest

from askback.errors import BadHouse
from askback.house import House
from tests.plain import FAR, NO_NUMBERS, far_numbers, great_houses, said_by_rule, small_houses

UPTO = 500


class MadeTest(unittest.TestCase):
    def refused(self, part, k, beginning):
        with self.assertRaises(BadHouse) as caught:
            House(k, beginning)
        self.assertEqual(caught.exception.part, part)

    def test_what_is_no_k(self):
        for k in NO_NUMBERS + [1, 0, -1, -2, 31, 10 ** 200, [2, 3], {"k": 2}]:
            self.refused("k", k, [1])

    def test_k_goes_ahead_of_the_beginning(self):
        for k in [None, True, 1, 31, "2", [2]]:
            for beginning in [None, True, 5, "1", [], [0], [True], {}]:
                self.refused("k", k, beginning)

    def test_every_k_from_2_to_30(self):
        for k in range(2, 31):
            self.assertEqual(House(k, [1] * (k - 1)).base(), k)

    def test_what_is_no_beginning(self):
        for thing in [None, True, False, 0, 1, 2, "", "1", "11", {}, {0: 1}, {1: 1, 2: 1}]:
            self.refused("beginning", 2, thing)
            self.refused("beginning", 3, thing)

    def test_a_beginning_too_short_or_too_long(self):
        for k in (2, 3, 9, 30):
            for many in (0, k - 2, k, k + 1, 200):
                self.refused("beginning", k, [1] * many)
                self.refused("beginning", k, (1,) * many)

    def test_a_beginning_with_what_is_no_number_from_1_on(self):
        for wrong in NO_NUMBERS + [0, -1, -10 ** 50, [[1]], ((),)]:
            self.refused("beginning", 2, [wrong])
            for at in range(3):
                beginning = [2, 1, 5]
                beginning[at] = wrong
                self.refused("beginning", 4, beginning)
                self.refused("beginning", 4, tuple(beginning))

    def test_a_tuple_may_stand_in_the_lists_place(self):
        house = House(4, (2, 1, 3))
        self.assertEqual(house.beginning(), [2, 1, 3])
        self.assertIs(type(house.beginning()), list)
        self.assertTrue(house == House(4, [2, 1, 3]))

    def test_what_was_handed_in_is_not_changed_and_not_kept(self):
        beginning = [2, 1, 3]
        house = House(4, beginning)
        self.assertEqual(beginning, [2, 1, 3])
        before = [house.said(place) for place in range(1, 40)]
        beginning[0] = 50
        beginning.append(1)
        self.assertEqual(house.beginning(), [2, 1, 3])
        self.assertEqual([house.said(place) for place in range(1, 40)], before)
        self.assertEqual((house.reach(), house.folk()), (3, 6))

    def test_a_told_beginning_is_the_askers_own(self):
        house = House(4, [2, 1, 3])
        told = house.beginning()
        told[0] = 50
        told.append(1)
        self.assertEqual(house.beginning(), [2, 1, 3])
        self.assertEqual([house.said(place) for place in (1, 2, 3, 4, 5, 6)], [1, 1, 2, 3, 3, 3])
        self.assertTrue(house == House(4, [2, 1, 3]))

    def test_reach_and_folk(self):
        for house, k, beginning in small_houses():
            self.assertEqual(house.base(), k)
            self.assertEqual(house.beginning(), beginning)
            self.assertEqual(house.reach(), sum(many - 1 for many in beginning))
            self.assertEqual(house.folk(), sum(beginning))
        self.assertEqual(House(30, [FAR] * 29).folk(), 29 * FAR)
        self.assertEqual(House(30, [FAR] * 29).reach(), 29 * (FAR - 1))


class SaidTest(unittest.TestCase):
    def test_said_against_the_rule(self):
        for house, k, beginning in small_houses():
            by_rule = said_by_rule(k, beginning, UPTO)
            told = [house.said(place) for place in range(1, UPTO + 1)]
            self.assertEqual(told, by_rule[1:], (k, beginning))

    def test_an_example_by_hand(self):
        house = House(2, [2])
        self.assertEqual([house.said(place) for place in range(1, 13)], [1, 1, 2, 2, 2, 3, 4, 4, 4, 4, 5, 6])

    def test_places_and_times_against_going_one_by_one(self):
        for house, k, beginning in small_houses():
            by_rule = said_by_rule(k, beginning, UPTO)
            for number in range(1, by_rule[-1]):
                places = [place for place in range(1, UPTO + 1) if by_rule[place] == number]
                self.assertEqual(house.times(number), len(places))
                self.assertEqual(house.first_place(number), places[0])
                self.assertEqual(house.last_place(number), places[-1])

    def test_the_beginning_at_its_edges(self):
        for house in great_houses():
            place = 0
            for number, many in enumerate(house.beginning(), start=1):
                self.assertEqual(house.said(place + 1), number)
                self.assertEqual(house.first_place(number), place + 1)
                place += many
                self.assertEqual(house.said(place), number)
                self.assertEqual(house.last_place(number), place)
                self.assertEqual(house.times(number), many)
            self.assertEqual(house.folk(), place)
            self.assertEqual(house.said(place + 1), house.base())

    def test_far_places_by_the_rule_itself(self):
        for house in great_houses():
            for place in far_numbers() + [house.folk() + 1, house.folk() + 50]:
                if place <= house.folk():
                    continue
                asked = 0
                for i in range(house.base()):
                    ahead = house.said(place - i - 1) if place - i > 1 else 1
                    whom = place - i - house.reach() - ahead
                    asked += house.said(whom) if whom >= 1 else 1
                self.assertEqual(house.said(place), asked)

    def test_far_numbers_by_what_is_said_of_last_places(self):
        for house in great_houses():
            k = house.base()
            for number in far_numbers() + [k ** 40 - 1, k ** 40, k ** 40 + 1, (k - 1) * k ** 40]:
                exponent = max(at for at in range(670) if k ** at <= number)
                sign = number // k ** exponent
                heap = sum(number // k ** at for at in range(1, exponent + 1))
                lessened = sum(many - 1 for many in house.beginning()[:sign])
                last = number + heap + exponent * house.reach() + lessened
                self.assertEqual(house.last_place(number), last)

    def test_far_numbers_first_last_and_times_hang_together(self):
        for house in great_houses():
            for number in far_numbers():
                first, last = house.first_place(number), house.last_place(number)
                self.assertEqual(house.times(number), last - first + 1)
                self.assertEqual(house.said(first), number)
                self.assertEqual(house.said(last), number)
                self.assertEqual(house.said(last + 1), number + 1)
                self.assertEqual(first, house.last_place(number - 1) + 1 if number > 1 else 1)
                if first > 1:
                    self.assertEqual(house.said(first - 1), number - 1)

    def test_where_rounds_begin_of_reaches_of_each_greatness(self):
        for k in (2, 3, 10, 30):
            for figures in (0, 1, 2, 5, 20, 60, 120, 197, 199):
                beginning = [1] * (k - 1)
                beginning[figures % (k - 1)] = 10 ** figures
                house = House(k, beginning)
                for exponent in (0, 1, 2, 3, 10, 40, 131, 300, 660):
                    for number in (k ** exponent, (k - 1) * k ** exponent):
                        first, last = house.first_place(number), house.last_place(number)
                        told = [house.said(place) for place in (first, last, last + 1)]
                        self.assertEqual(told, [number, number, number + 1])
                        if number > 1:
                            self.assertEqual(house.said(first - 1), number - 1)

    def test_far_times_by_how_often_k_divides(self):
        for house in great_houses():
            k = house.base()
            for number in far_numbers():
                self.assertEqual(house.times(k * number), house.times(number) + 1)
                if number % k:
                    self.assertEqual(house.times(number), 1)
            for sign, many in enumerate(house.beginning(), start=1):
                self.assertEqual(house.times(sign * k ** 100), many + 100)

    def test_it_never_falls_and_rises_by_one_at_most(self):
        for house in great_houses():
            for place in far_numbers():
                self.assertIn(house.said(place + 1) - house.said(place), (0, 1))

    def test_places_as_far_as_the_program_tells_them(self):
        house = House(2, [FAR])
        place = FAR
        for _ in range(6):
            number, place = place, house.last_place(place)
            self.assertGreater(place, number)
            self.assertEqual(house.said(place), number)
            self.assertEqual(house.said(place + 1), number + 1)

    def test_the_same_is_told_again(self):
        house = House(3, [2, 10 ** 50])
        for place in far_numbers():
            self.assertEqual(house.said(place), house.said(place))


class EqualTest(unittest.TestCase):
    def test_houses_are_equal_where_k_and_beginnings_are(self):
        self.assertTrue(House(3, [2, 1]) == House(3, [2, 1]))
        self.assertFalse(House(3, [2, 1]) != House(3, (2, 1)))
        self.assertFalse(House(3, [2, 1]) == House(3, [1, 2]))
        self.assertFalse(House(2, [1]) == House(3, [1, 1]))
        self.assertFalse(House(2, [1]) == House(2, [2]))
        self.assertTrue(House(2, [1]) != House(2, [2]))

    def test_what_is_no_house_is_not_equal(self):
        house = House(2, [1])
        for thing in NO_NUMBERS + [2, 1, (2, [1]), [2, [1]], "house 2 by 1"]:
            self.assertIs(house == thing, False)
            self.assertIs(thing == house, False)
            self.assertIs(house != thing, True)


class NamesTest(unittest.TestCase):
    def test_by_places_and_by_names(self):
        house = House(beginning=[2, 3], k=3)
        self.assertTrue(house == House(3, [2, 3]))
        self.assertEqual(house.said(6), 3)
        self.assertEqual(house.said(place=6), 3)
        self.assertEqual(house.times(3), 3)
        self.assertEqual(house.times(number=3), 3)
        self.assertEqual(house.first_place(3), 6)
        self.assertEqual(house.first_place(number=3), 6)
        self.assertEqual(house.last_place(3), 8)
        self.assertEqual(house.last_place(number=3), 8)
        self.assertEqual((house.base(), house.beginning(), house.reach(), house.folk()), (3, [2, 3], 3, 5))

    def test_the_class_itself_has_each_method(self):
        listed = ["base", "beginning", "reach", "folk", "said", "times", "first_place", "last_place", "__eq__"]
        for name in listed:
            self.assertIn(name, vars(House))


if __name__ == "__main__":
    unittest.main()
