"""Bars ([22], and what [2], [3], [4] say of them)."""

import random
import unittest
from itertools import combinations

from askback.bars import bar_of, shows_bar, why_greatest, why_least
from askback.errors import BadHouse, BadSaying, NoHouse
from askback.house import House
from askback.sightings import reaches
from tests.plain import FAR, NO_LISTS, AllHouses, far_sayings, great_houses, refuses_no_k_then_no_sayings

ALL = [AllHouses(2, 12), AllHouses(3, 9), AllHouses(4, 7)]

# No house of k 2 keeps places 0 and 2 together, nor 1 and 3; of reach 5 places 0 and 4 are none, either.
BARRED = [("at most", 7, 1), ("at most", 9, 1), ("at least", 7, 2), ("at least", 8, 2), ("at most", 3, 3),
          ("at least", 1, 1)]

# Nothing of these is a list of places at all.
NO_PLACES = NO_LISTS + [[None], [True], [False, 2], ["0", "2"], [[0, 2]], [(0, 2)], "02", {0, 2}, {0: 2, 2: 0},
                        [0, 2, None], [0, "2"], [0, [2]], [{}], [()], [0.0, 2]]


def is_list_of_places(thing, many, most):
    return (type(thing) is list and len(thing) <= most and thing == sorted(set(thing))
            and all(type(place) is int and 0 <= place < many for place in thing))


def no_house_rows():
    """Far sayings that no house keeps together: of two houses, or of one with a saying that is wrong."""
    chance = random.Random(71)
    rows = []
    for house in great_houses():
        k = house.base()
        other = House(k, [chance.randrange(1, 10 ** 80) for _ in range(k - 1)])
        sayings = far_sayings(house, chance, 30, 10 ** 90) + far_sayings(other, chance, 30, 10 ** 90)
        chance.shuffle(sayings)
        rows.append((k, sayings))
        wrong = ("at least", FAR // 3, house.said(FAR) + 1)
        rows.append((k, far_sayings(house, chance, 20) + [wrong] + far_sayings(house, chance, 20)))
        low, high = ("at most", house.folk(), k - 1), ("at least", house.folk(), k)
        rows.append((k, far_sayings(house, chance, 20) + [low, high]))
    return [(k, sayings) for k, sayings in rows if reaches(k, sayings) is None]


class BarTest(unittest.TestCase):
    def test_just_where_no_house_keeps_all(self):
        chance = random.Random(72)
        barred = 0
        for houses in ALL:
            for _ in range(300):
                sayings = houses.some_sayings(chance, 8)
                bar = bar_of(houses.k, sayings)
                if houses.reaches(sayings) is not None:
                    self.assertIsNone(bar)
                    continue
                barred += 1
                self.assertTrue(is_list_of_places(bar, len(sayings), 4))
                self.assertIsNone(houses.reaches([sayings[place] for place in bar]))
                self.assertIs(shows_bar(houses.k, sayings, bar), True)
                self.assertIs(shows_bar(houses.k, sayings, tuple(bar)), True)
        self.assertGreater(barred, 200)

    def test_of_a_reach_just_where_no_house_of_it_keeps_all(self):
        chance = random.Random(73)
        barred = 0
        for houses in ALL:
            for _ in range(60):
                sayings = houses.some_sayings(chance, 5)
                for reach in range(houses.upto + 2):
                    bar = bar_of(houses.k, sayings, reach=reach)
                    if houses.keeping(sayings, reach):
                        self.assertIsNone(bar)
                        continue
                    barred += 1
                    self.assertTrue(is_list_of_places(bar, len(sayings), 2))
                    self.assertEqual(houses.keeping([sayings[place] for place in bar], reach), [])
                    self.assertIs(shows_bar(houses.k, sayings, bar, reach=reach), True)
                    self.assertIs(shows_bar(houses.k, sayings, tuple(bar), reach=reach), True)
        self.assertGreater(barred, 500)

    def test_some_bars_need_four(self):
        # The first two let be no reach below 10, the other two none above 8, and each three some reach.
        sayings = [("at most", 66, 32), ("at least", 25, 9), ("at most", 5, 1), ("at least", 18, 5)]
        self.assertEqual(bar_of(4, sayings), [0, 1, 2, 3])
        self.assertEqual(reaches(4, sayings[:2]), (10, 14))
        self.assertEqual(reaches(4, sayings[2:]), (4, 8))
        for some in combinations(range(4), 3):
            self.assertIsNone(bar_of(4, [sayings[place] for place in some]))
            self.assertIs(shows_bar(4, sayings, list(some)), False)
        more = [("at least", 30, 1)] + sayings[:2] + [("at most", 90, 80)] + sayings[2:]
        self.assertEqual(bar_of(4, more), [1, 2, 4, 5])
        self.assertIs(shows_bar(4, more, [1, 2, 4, 5]), True)
        self.assertIs(shows_bar(4, more, [0, 1, 2, 4, 5]), False)

    def test_far(self):
        rows = no_house_rows()
        self.assertGreater(len(rows), 20)
        for k, sayings in rows:
            bar = bar_of(k, sayings)
            self.assertTrue(is_list_of_places(bar, len(sayings), 4))
            self.assertIsNone(reaches(k, [sayings[place] for place in bar]))
            self.assertIs(shows_bar(k, sayings, bar), True)
            for reach in (0, 1, 10 ** 50, FAR, 10 ** 300):
                bar = bar_of(k, sayings, reach=reach)
                self.assertTrue(is_list_of_places(bar, len(sayings), 2))
                self.assertIs(shows_bar(k, sayings, bar, reach=reach), True)
                self.assertIs(shows_bar(k, sayings, bar[:-1], reach=reach), reaches_not(k, sayings, bar[:-1], reach))

    def test_far_of_reaches_past_the_ends(self):
        chance = random.Random(75)
        for house in great_houses():
            sayings = far_sayings(house, chance, 80, 10 ** 40)
            least, greatest = reaches(house.base(), sayings)
            self.assertIsNone(bar_of(house.base(), sayings))
            self.assertIsNone(bar_of(house.base(), sayings, reach=house.reach()))
            for reach in (least - 1, least, greatest, greatest and greatest + 1):
                if reach is None or reach < 0:
                    continue
                bar = bar_of(house.base(), sayings, reach=reach)
                inside = least <= reach and (greatest is None or reach <= greatest)
                self.assertIs(bar is None, inside)
                if bar is not None:
                    self.assertTrue(is_list_of_places(bar, len(sayings), 2))
                    self.assertIs(shows_bar(house.base(), sayings, bar, reach=reach), True)
                    self.assertIs(shows_bar(house.base(), sayings, bar), False)

    def test_a_told_list_is_the_askers_own(self):
        told = bar_of(2, BARRED)
        told.append(5)
        why_least(2, BARRED[:1]).append(5)
        self.assertTrue(shows_bar(2, BARRED, bar_of(2, BARRED)))
        self.assertEqual(why_least(2, BARRED[:1]), [0])


def reaches_not(k, sayings, places, reach):
    """Whether no house of the reach keeps the sayings of these places, by the reaches that are told."""
    span = reaches(k, [sayings[place] for place in places])
    return span is None or not (span[0] <= reach and (span[1] is None or reach <= span[1]))


class LookTest(unittest.TestCase):
    def test_all_lists_of_places(self):
        for many in range(6):
            for some in combinations(range(6), many):
                barred = reaches(2, [BARRED[place] for place in some]) is None
                self.assertIs(shows_bar(2, BARRED, list(some)), barred and many <= 4, some)
                self.assertIs(shows_bar(2, BARRED, some), barred and many <= 4, some)
                for reach in (0, 4, 5, 6, 7, 8, 9):
                    barred = reaches_not(2, BARRED, some, reach)
                    self.assertIs(shows_bar(2, BARRED, list(some), reach=reach), barred and many <= 2, some)

    def test_some_are_bars_and_some_not(self):
        self.assertIs(shows_bar(2, BARRED, [0, 2]), True)
        self.assertIs(shows_bar(2, BARRED, [0, 2, 4, 5]), True)
        self.assertIs(shows_bar(2, BARRED, [0, 1, 2, 4, 5]), False)
        self.assertIs(shows_bar(2, BARRED, [0, 2, 4], reach=6), False)
        self.assertIs(shows_bar(2, BARRED, [0, 2], reach=6), True)
        self.assertIs(shows_bar(2, BARRED, [0], reach=5), True)
        self.assertIs(shows_bar(2, BARRED, [0], reach=6), False)
        self.assertIs(shows_bar(2, BARRED, [2], reach=6), True)
        self.assertIs(shows_bar(2, BARRED, []), False)
        self.assertIs(shows_bar(2, BARRED, [], reach=3), False)

    def test_what_is_none(self):
        wrong = [[2, 0], [0, 0], [0, 2, 2], [0, 0, 2], [0, 6], [2, 6], [-6, 2], [0, -4], [0, 2, 10 ** 200]]
        for thing in NO_PLACES + wrong + [tuple(row) for row in wrong]:
            self.assertIs(shows_bar(2, BARRED, thing), False, thing)
            for reach in (0, 5, 6, FAR):
                self.assertIs(shows_bar(2, BARRED, thing, reach=reach), False, thing)

    def test_truths_are_no_places(self):
        sayings = [("at most", 7, 1), ("at least", 7, 2)]
        self.assertIs(shows_bar(2, sayings, [0, 1]), True)
        for thing in ([False, True], [0, True], [False, 1], (False, 1)):
            self.assertIs(shows_bar(2, sayings, thing), False)


class WhyTest(unittest.TestCase):
    def test_against_all_houses(self):
        chance = random.Random(76)
        told = 0
        for houses in ALL:
            for _ in range(250):
                sayings = houses.some_sayings(chance, 4)
                span = houses.reaches(sayings)
                if span is None:
                    for call in (why_least, why_greatest):
                        with self.assertRaises(NoHouse):
                            call(houses.k, sayings)
                    continue
                low, high = why_least(houses.k, sayings), why_greatest(houses.k, sayings)
                for why in (low, high):
                    self.assertTrue(is_list_of_places(why, len(sayings), 2))
                self.assertIs(low == [], span[0] == 0)
                self.assertIs(high == [], span[1] is None)
                lesser = range(span[0])
                greater = [] if span[1] is None else range(span[1] + 1, houses.upto + 2)
                for why, barred in ((low, lesser), (high, greater)):
                    told += len(why)
                    for reach in barred:
                        self.assertEqual(houses.keeping([sayings[place] for place in why], reach), [])
        self.assertGreater(told, 100)

    def test_far(self):
        chance = random.Random(77)
        for house in great_houses():
            for loose in (2, 10 ** 50):
                k, sayings = house.base(), far_sayings(house, chance, 80, loose)
                least, greatest = reaches(k, sayings)
                low, high = why_least(k, sayings), why_greatest(k, sayings)
                for why in (low, high):
                    self.assertTrue(is_list_of_places(why, len(sayings), 2))
                self.assertEqual(reaches(k, [sayings[place] for place in low])[0], least)
                self.assertEqual(reaches(k, [sayings[place] for place in high])[1], greatest)
                self.assertIs(low == [], least == 0)
                self.assertIs(high == [], greatest is None)

    def test_of_no_sayings(self):
        self.assertEqual((why_least(5, []), why_greatest(5, [])), ([], []))

    def test_no_house(self):
        for k, sayings in no_house_rows():
            for call in (why_least, why_greatest):
                with self.assertRaises(NoHouse):
                    call(k, sayings)


class RefusedTest(unittest.TestCase):
    def test_no_k_then_no_sayings(self):
        refuses_no_k_then_no_sayings(self, bar_of)
        refuses_no_k_then_no_sayings(self, lambda k, sayings: bar_of(k, sayings, reach=4))
        refuses_no_k_then_no_sayings(self, lambda k, sayings: shows_bar(k, sayings, None))
        refuses_no_k_then_no_sayings(self, lambda k, sayings: shows_bar(k, sayings, [0], reach=4))
        refuses_no_k_then_no_sayings(self, why_least)
        refuses_no_k_then_no_sayings(self, why_greatest)

    def test_ahead_of_no_house(self):
        for call in (why_least, why_greatest):
            with self.assertRaises(BadHouse):
                call(0, BARRED)
            with self.assertRaises(BadSaying) as caught:
                call(2, BARRED + [0])
            self.assertEqual(caught.exception.place, 6)


class NamesTest(unittest.TestCase):
    def test_by_places_and_by_names(self):
        self.assertEqual(bar_of(sayings=BARRED, k=2, reach=None), bar_of(2, BARRED))
        self.assertEqual(bar_of(reach=5, sayings=BARRED, k=2), bar_of(2, BARRED, reach=5))
        self.assertIs(shows_bar(thing=[0, 2], sayings=BARRED, k=2), True)
        self.assertIs(shows_bar(thing=[0], sayings=BARRED, k=2, reach=5), True)
        self.assertIs(shows_bar(2, BARRED, [0], reach=None), False)
        self.assertEqual(why_least(sayings=BARRED[:1], k=2), [0])
        self.assertEqual(why_greatest(sayings=BARRED[2:3], k=2), [0])

    def test_behind_the_star_by_names_alone(self):
        with self.assertRaises(TypeError):
            bar_of(2, BARRED, 5)
        with self.assertRaises(TypeError):
            shows_bar(2, BARRED, [0], 5)

    def test_a_tuple_in_the_lists_place_and_all_unchanged(self):
        sayings, places = list(BARRED), [0, 2]
        self.assertEqual(bar_of(2, tuple(sayings)), bar_of(2, sayings))
        self.assertEqual(bar_of(2, tuple(sayings), reach=5), bar_of(2, sayings, reach=5))
        self.assertIs(shows_bar(2, tuple(sayings), places), shows_bar(2, sayings, places))
        self.assertEqual(why_least(2, tuple(sayings[:2])), why_least(2, sayings[:2]))
        self.assertEqual((sayings, places), (BARRED, [0, 2]))

    def test_a_list_that_is_changed_behind(self):
        sayings = list(BARRED)
        bar, why = bar_of(2, sayings), why_least(2, sayings[:2])
        kept = list(bar), list(why)
        sayings[:] = [("at most", 1, 1)]
        self.assertEqual((bar, why), kept)
        self.assertIsNone(bar_of(2, sayings))
        sayings.extend([("at most", 7, 1), ("at least", 7, 2)])
        self.assertEqual(bar_of(2, sayings), [1, 2])


if __name__ == "__main__":
    unittest.main()
