"""Two houses ([19], and what [2], [4] say of them)."""

import random
import unittest

from askback.apart import greater, less_at, lesser, parts
from askback.errors import OtherK
from askback.house import House
from tests.plain import FAR, great_houses, said_by_rule, small_houses

UPTO = 250


def pairs_of_one_k():
    """Two houses of one k with what is said in both."""
    chance = random.Random(51)
    found = []
    for k in (2, 3, 4, 6):
        for _ in range(60):
            both = [[chance.choice([1, 1, 2, 3, 9]) for _ in range(k - 1)] for _ in range(2)]
            found.append([(House(k, beginning), said_by_rule(k, beginning, UPTO)) for beginning in both])
    return found


def far_pairs():
    """Two houses of one k, with beginnings that are far themselves."""
    chance = random.Random(52)
    found = []
    for k in (2, 3, 10, 30):
        for figures in (1, 40, 199):
            both = [[chance.randrange(1, 10 ** figures) for _ in range(k - 1)] for _ in range(3)]
            both.append(both[0][:-1] + [both[0][-1] + 1])
            both.append([both[0][0] + 1] + both[0][1:])
            found.extend([(House(k, one), House(k, other)) for one in both for other in both])
    return found


class PartsTest(unittest.TestCase):
    def test_against_both_rows(self):
        rows = [(house, said_by_rule(k, beginning, UPTO)) for house, k, beginning in small_houses()]
        for one, said in rows:
            for other, other_said in rows:
                apart = [place for place in range(1, UPTO + 1) if said[place] != other_said[place]]
                self.assertEqual(parts(one, other), apart[0] if apart else None)

    def test_none_where_they_say_the_same_at_all_places(self):
        for house in great_houses():
            self.assertIsNone(parts(house, house))
            self.assertIsNone(parts(house, House(house.base(), house.beginning())))

    def test_houses_of_two_k_part_however_like_they_begin(self):
        chance = random.Random(53)
        for k in range(2, 30):
            for other_k in {k + 1, 2 * k, 30, chance.randrange(k + 1, 31)} & set(range(k + 1, 31)):
                for great in (2, 10 ** 199):
                    house = House(k, [chance.choice([1, 1, great]) for _ in range(k - 1)])
                    # It is begun as the one of the lesser k goes on, for as long as a beginning is.
                    other = House(other_k, [house.times(number) for number in range(1, other_k)])
                    place = parts(house, other)
                    self.assertEqual(parts(other, house), place)
                    self.assertNotEqual(house.said(place), other.said(place))
                    self.assertGreaterEqual(place, other.folk())
                    last = min(house.said(place), other.said(place))
                    for number in range(1, last):
                        self.assertEqual(house.last_place(number), other.last_place(number))
                    self.assertEqual(house.said(place - 1), other.said(place - 1))

    def test_far(self):
        for one, other in far_pairs():
            place = parts(one, other)
            if one.beginning() == other.beginning():
                self.assertIsNone(place)
                continue
            self.assertNotEqual(one.said(place), other.said(place))
            pairs = list(zip(one.beginning(), other.beginning()))
            at = [a != b for a, b in pairs].index(True)
            self.assertEqual(place, sum(a for a, _ in pairs[:at]) + min(pairs[at]) + 1)


class LessTest(unittest.TestCase):
    def test_against_both_rows(self):
        for (one, said), (other, other_said) in pairs_of_one_k():
            place = less_at(one, other)
            less = [n for n in range(1, UPTO + 1) if said[n] < other_said[n]]
            if place is None:
                self.assertEqual(less, [])
            else:
                self.assertLess(one.said(place), other.said(place))
                self.assertNotEqual(less, [])

    def test_far(self):
        for one, other in far_pairs():
            place = less_at(one, other)
            if place is None:
                for number in list(range(1, 80)) + [10 ** 30, 30 ** 40, FAR]:
                    self.assertLessEqual(one.last_place(number), other.last_place(number))
            else:
                self.assertLess(one.said(place), other.said(place))

    def test_never_less_than_itself(self):
        for house in great_houses():
            self.assertIsNone(less_at(house, house))

    def test_less_behind_the_beginning_is_less_in_it(self):
        self.assertIsNone(less_at(House(3, [2, 2]), House(3, [3, 1])))
        self.assertIsNotNone(less_at(House(3, [3, 1]), House(3, [2, 2])))
        self.assertIsNotNone(less_at(House(3, [3, 1]), House(3, [1, 9])))
        self.assertIsNotNone(less_at(House(3, [1, 9]), House(3, [3, 1])))


class BothTest(unittest.TestCase):
    def test_at_every_place_gone(self):
        for (one, said), (other, other_said) in pairs_of_one_k():
            low, high = lesser(one, other), greater(one, other)
            for place in range(1, UPTO + 1):
                self.assertLessEqual(low.said(place), min(said[place], other_said[place]))
                self.assertGreaterEqual(high.said(place), max(said[place], other_said[place]))

    def test_the_nearest_such_of_all(self):
        beginnings = [[a, b, c] for a in range(1, 5) for b in range(1, 4) for c in range(1, 4)]
        houses = [House(4, beginning) for beginning in beginnings]
        chance = random.Random(54)
        for _ in range(25):
            one, other = chance.choice(houses), chance.choice(houses)
            low, high = lesser(one, other), greater(one, other)
            for house in houses:
                if less_at(one, house) is None and less_at(other, house) is None:
                    self.assertIsNone(less_at(low, house))
                if less_at(house, one) is None and less_at(house, other) is None:
                    self.assertIsNone(less_at(house, high))

    def test_by_the_sums_of_the_beginnings(self):
        for one, other in far_pairs():
            low, high = lesser(one, other), greater(one, other)
            for house, pick in ((low, max), (high, min)):
                self.assertIsInstance(house, House)
                self.assertEqual(house.base(), one.base())
                for sign in range(1, one.base()):
                    sums = [sum(asked.beginning()[:sign]) - sign for asked in (house, one, other)]
                    self.assertEqual(sums[0], pick(sums[1:]))

    def test_what_was_handed_in_is_not_changed(self):
        one, other = House(3, [1, 9]), House(3, [3, 1])
        for call in (parts, less_at, lesser, greater):
            call(one, other)
        self.assertEqual((one.beginning(), other.beginning()), ([1, 9], [3, 1]))
        lesser(one, other).beginning().append(4)
        self.assertTrue(lesser(one, other) == House(3, [3, 7]))
        self.assertTrue(greater(one, other) == House(3, [1, 3]))


class OtherKTest(unittest.TestCase):
    def test_refused_with_the_other_ones_k(self):
        for k, other_k in [(2, 3), (3, 2), (30, 2), (7, 30)]:
            one, other = House(k, [1] * (k - 1)), House(other_k, [2] * (other_k - 1))
            for call in (less_at, lesser, greater):
                with self.assertRaises(OtherK) as caught:
                    call(one, other)
                self.assertEqual(caught.exception.k, other_k)

    def test_two_k_may_part(self):
        self.assertEqual(parts(House(2, [1]), House(3, [1, 2])), 5)


class NamesTest(unittest.TestCase):
    def test_by_places_and_by_names(self):
        one, other = House(3, [1, 9]), House(3, [3, 1])
        for call in (parts, less_at, lesser, greater):
            self.assertTrue(call(other=other, one=one) == call(one, other))
            self.assertTrue(call(one, other=other) == call(one, other))


if __name__ == "__main__":
    unittest.main()
