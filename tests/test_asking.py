"""Asking ([14], [15], and what [2], [4] say of them)."""

import random
import unittest

from askback.asking import (asked, asked_often, chain, hanging, last_with, leads, led_again, led_from,
                            nearest)
from askback.house import House
from tests.plain import (FAR, asks_by_rule, chains_by_rule, great_houses, is_as_told, said_by_rule,
                         small_houses)

UPTO = 300
BELOWS = [0, 1, 2, 3, 7, 30, 31, 100, UPTO, UPTO + 1]


def rows():
    """Houses with what is said, whom each asks and each chain, gone one by one."""
    found = []
    for house, k, beginning in small_houses():
        said = said_by_rule(k, beginning, UPTO)
        found.append((house, said, asks_by_rule(k, said), chains_by_rule(k, said)))
    return found


def far_places():
    """Places of up to ninety figures, and some as far as places are handed in."""
    chance = random.Random(31)
    places = [10 ** 89 - 1, 2 ** 280, 30 ** 60, 10 ** 50 + 1, FAR]
    return places + [chance.randrange(1, 10 ** figures) for figures in (20, 40, 60, 75, 90)]


class AskedTest(unittest.TestCase):
    def test_whom_each_asks_against_the_rule(self):
        for house, said, asks, _ in rows():
            for place in range(1, UPTO + 1):
                self.assertEqual(asked(house, place), asks[place])

    def test_an_example_by_hand(self):
        house = House(3, [2, 3])
        self.assertIsNone(asked(house, 5))
        self.assertEqual(asked(house, 6), [1, 0, -1])
        self.assertEqual(asked(house, 7), [1, 1, 0])

    def test_none_just_in_the_beginning(self):
        for house in great_houses():
            for place in (1, house.folk() - 1, house.folk()):
                if place >= 1:
                    self.assertIsNone(asked(house, place))
            self.assertEqual(len(asked(house, house.folk() + 1)), house.base())

    def test_places_below_1_are_told_too(self):
        self.assertEqual(asked(House(2, [1]), 2), [1, 0])
        self.assertEqual(asked(House(30, [1] * 29), 30), list(range(1, -29, -1))[:1] + [1] * 28 + [0])
        self.assertEqual(asked(House(2, [5]), 6), [1, 0])
        self.assertEqual(asked(House(4, [9, 1, 1]), 12), [1, 1, 1, 0])
        self.assertEqual(asked(House(4, [1, 1, 9]), 12), [1, 0, -1, -2])

    def test_far_what_is_said_there_adds_up(self):
        for house in great_houses():
            for place in far_places() + [house.folk() + 1, house.folk() * 3 + 5]:
                if place <= house.folk():
                    self.assertIsNone(asked(house, place))
                    continue
                told = asked(house, place)
                self.assertEqual(len(told), house.base())
                self.assertTrue(is_as_told(told))
                self.assertEqual(sum(house.said(one) if one >= 1 else 1 for one in told), house.said(place))

    def test_a_told_list_is_the_askers_own(self):
        house = House(3, [2, 3])
        asked(house, 40).append(5)
        chain(house, 40)[0] = 7
        self.assertEqual(asked(house, 40), asked(House(3, [2, 3]), 40))
        self.assertEqual(chain(house, 40)[0], 40)


class ChainTest(unittest.TestCase):
    def test_where_each_leads_and_its_chain_against_the_rule(self):
        for house, said, _, chains in rows():
            for place in range(1, UPTO + 1):
                led = place + 1 - house.reach() - said[place]
                self.assertEqual(leads(house, place), led if led >= 1 else None)
                self.assertEqual(chain(house, place), chains[place])

    def test_whoever_comes_next_asks_there_first(self):
        for house, _, asks, _ in rows():
            for place in range(1, UPTO):
                if asks[place + 1] is not None:
                    first = asks[place + 1][0]
                    self.assertEqual(leads(house, place), first if first >= 1 else None)

    def test_none_of_what_leads_below_1(self):
        house = House(3, [2, 3])
        self.assertEqual([leads(house, place) for place in range(1, 7)], [None] * 4 + [1, 1])
        self.assertEqual([leads(House(2, [1]), place) for place in (1, 2, 3)], [1, 1, 2])
        self.assertEqual([leads(House(4, [1, 1, 1]), place) for place in (1, 2, 3, 4)], [1, 1, 1, 1])

    def test_far_chains_end_in_the_beginning(self):
        for house in great_houses():
            for place in far_places():
                told = chain(house, place)
                self.assertEqual(told[0], place)
                self.assertTrue(1 <= told[-1] <= house.folk())
                self.assertTrue(all(here > house.folk() for here in told[:-1]))
                for here, there in list(zip(told, told[1:]))[::9]:
                    self.assertEqual(there, here + 1 - house.reach() - house.said(here))
                    self.assertEqual(there, leads(house, here))
                    self.assertEqual(there, asked(house, here + 1)[0])

    def test_of_the_beginning_it_is_the_place_itself(self):
        for house in great_houses():
            for place in (1, house.folk()):
                self.assertEqual(chain(house, place), [place])


class OftenTest(unittest.TestCase):
    def test_against_going_one_by_one(self):
        for house, _, asks, _ in rows():
            for below in BELOWS + [house.folk() + more for more in range(4)]:
                all_asked = [one for row in asks[1:below] if row is not None for one in row]
                for place in list(range(1, 25)) + [40, 77, 150, UPTO]:
                    if below <= UPTO + 1:
                        self.assertEqual(asked_often(house, place, below), all_asked.count(place))

    def test_one_who_asks_it_twice_counts_twice(self):
        house = House(3, [2, 3])
        self.assertEqual(asked(house, 7), [1, 1, 0])
        self.assertEqual(asked_often(house, 1, 7), 1)
        self.assertEqual(asked_often(house, 1, 8), 3)

    def test_far_by_those_who_ask_it(self):
        for house in great_houses():
            for place in far_places()[::3] + [1, 2, house.base(), house.folk(), house.folk() + 1]:
                first, last = led_from(house, place, 1)
                from_here, to_here = max(1, first - house.base()), last + house.base() + 2
                often = 0
                for below in range(from_here, to_here + 1):
                    self.assertEqual(asked_often(house, place, below), often)
                    often += (asked(house, below) or []).count(place)
                self.assertEqual(asked_often(house, place, 10 * to_here), often)
                self.assertEqual(asked_often(house, place, FAR * FAR), often)
                self.assertEqual(asked_often(house, place, 0), 0)


class LedTest(unittest.TestCase):
    def test_stretches_against_the_chains(self):
        for house, _, _, chains in rows():
            behind = range(house.folk() + 1, UPTO + 1)
            for place in list(range(1, 40)) + [55, 90]:
                for steps in (1, 2, 3, 4, 9):
                    such = [n for n in behind if chains[n][steps:steps + 1] == [place]]
                    first, last = led_from(house, place, steps)
                    self.assertEqual(list(range(first, min(last, UPTO) + 1)), such)
                    self.assertLessEqual(first, last)

    def test_last_with_so_many_steps_against_the_chains(self):
        for house, _, _, chains in rows():
            for steps in range(6):
                last = last_with(house, steps)
                if last < UPTO:
                    self.assertEqual(len(chains[last]) - 1, steps)
                    self.assertEqual(len(chains[last + 1]) - 1, steps + 1)
            self.assertEqual(last_with(house, 0), house.folk())

    def test_led_again_against_the_rule(self):
        for house, said, _, chains in rows():
            again = {}
            for n in range(house.folk() + 1, UPTO + 1):
                if said[n] == said[n - 1]:
                    self.assertNotIn(chains[n][1], again)
                    again[chains[n][1]] = n
            for place in range(2, 60):
                told = led_again(house, place)
                self.assertEqual(again.get(place, told), told)
                self.assertTrue(place in again or told > UPTO)

    def test_far_stretches_by_the_chains_that_are_told(self):
        for house in great_houses():
            for place in [1, 2, house.folk(), house.folk() + 1] + far_places()[::3]:
                for steps in (1, 17, 60 + house.base()):
                    told = led_from(house, place, steps)
                    self.assertIs(type(told), tuple)
                    first, last = told
                    self.assertTrue(house.folk() < first <= last)
                    self.assertEqual(chain(house, first)[steps], place)
                    self.assertEqual(chain(house, last)[steps], place)
                    if first - 1 > house.folk():
                        self.assertNotEqual(chain(house, first - 1)[steps:steps + 1], [place])
                    self.assertNotEqual(chain(house, last + 1)[steps:steps + 1], [place])

    def test_two_hundred_steps(self):
        for house in (House(2, [3]), House(30, [FAR] * 29)):
            for place in (1, FAR):
                first, last = led_from(house, place, 200)
                self.assertEqual(chain(house, first)[200], place)
                self.assertEqual(chain(house, last)[200], place)
                self.assertNotEqual(chain(house, first - 1)[200:201], [place])
                self.assertNotEqual(chain(house, last + 1)[200:201], [place])

    def test_far_last_with_so_many_steps(self):
        for house in great_houses():
            for steps in (0, 1, 2, 30, 200):
                last = last_with(house, steps)
                self.assertEqual(len(chain(house, last)), steps + 1)
                self.assertEqual(len(chain(house, last + 1)), steps + 2)

    def test_far_led_again(self):
        for house in great_houses():
            for place in [2, 3, house.folk(), house.folk() + 1, house.folk() + 2] + far_places():
                if place >= 2:
                    again = led_again(house, place)
                    self.assertGreater(again, house.folk())
                    self.assertEqual(leads(house, again), place)
                    self.assertLess(house.first_place(house.said(again)), again)


class HangingTest(unittest.TestCase):
    def test_against_the_chains(self):
        for house, _, _, chains in rows():
            through = {}
            for n in range(1, UPTO + 1):
                for place in chains[n]:
                    through.setdefault(place, []).append(n)
            for place in list(range(1, 40)) + [80, 200]:
                for below in BELOWS:
                    such = [n for n in through[place] if n < below]
                    self.assertEqual(hanging(house, place, below), len(such))

    def test_itself_counts_where_it_is_below(self):
        for house in great_houses():
            for place in (1, 2, 10 ** 60, FAR):
                self.assertEqual(hanging(house, place, place), 0)
                self.assertEqual(hanging(house, place, place + 1), 1)

    def test_far_by_the_stretches(self):
        for house in great_houses():
            for place in (1, 2, house.folk(), house.folk() + 1, 10 ** 40 + 7):
                ends = [led_from(house, place, steps) for steps in (1, 2, 3)]
                whole = [last - first + 1 for first, last in ends]
                self.assertEqual(hanging(house, place, ends[0][1] + 1), 1 + whole[0])
                self.assertEqual(hanging(house, place, ends[1][0]), 1 + whole[0])
                self.assertEqual(hanging(house, place, ends[1][1]), whole[0] + whole[1])
                self.assertEqual(hanging(house, place, ends[2][1] + 1), 1 + sum(whole))

    def test_far_all_below_hang_on_the_beginning(self):
        for k, beginning in [(2, [1]), (2, [4]), (3, [2, 2]), (7, [1, 3, 1, 1, 2, 1])]:
            house = House(k, beginning)
            for below in far_places():
                hung = [hanging(house, place, below) for place in range(1, house.folk() + 1)]
                self.assertEqual(sum(hung), below - 1)


class NearestTest(unittest.TestCase):
    def test_against_the_chains(self):
        for house, _, _, chains in rows():
            for one in list(range(1, 30)) + [100, 101, 222]:
                for other in list(range(1, 60, 4)) + [100, 103, UPTO]:
                    both = [place for place in chains[one] if place in chains[other]]
                    told = nearest(house, one, other)
                    if not both:
                        self.assertIsNone(told)
                        continue
                    place = max(both)
                    self.assertEqual(told, (place, chains[one].index(place), chains[other].index(place)))
                    self.assertIs(type(told), tuple)

    def test_none_where_the_chains_end_apart(self):
        house = House(3, [2, 3])
        self.assertIsNone(nearest(house, 1, 2))
        self.assertIsNone(nearest(house, led_from(house, 1, 90)[0], led_from(house, 5, 90)[0]))
        self.assertEqual(nearest(house, 4, 4), (4, 0, 0))

    def test_far(self):
        for house in great_houses():
            for place in (1, house.folk(), house.folk() + 1, 10 ** 40 + 7):
                first, last = led_from(house, place, 50)
                told = nearest(house, first, led_from(house, place, 20)[1])
                self.assertGreaterEqual(told[0], place)
                self.assertEqual(chain(house, first)[told[1]], told[0])
                self.assertEqual(chain(house, led_from(house, place, 20)[1])[told[2]], told[0])
                self.assertEqual(nearest(house, first, place), (place, 50, 0))
                self.assertEqual(nearest(house, place, last), (place, 0, 50))


class NamesTest(unittest.TestCase):
    def test_by_places_and_by_names(self):
        house = House(3, [2, 3])
        self.assertEqual(asked(house=house, place=7), asked(house, 7))
        self.assertEqual(leads(place=7, house=house), leads(house, 7))
        self.assertEqual(chain(house=house, place=90), chain(house, 90))
        self.assertEqual(asked_often(house=house, below=9, place=1), asked_often(house, 1, 9))
        self.assertEqual(led_from(house=house, place=4, steps=2), led_from(house, 4, 2))
        self.assertEqual(last_with(steps=3, house=house), last_with(house, 3))
        self.assertEqual(led_again(house=house, place=4), led_again(house, 4))
        self.assertEqual(hanging(house=house, place=4, below=90), hanging(house, 4, 90))
        self.assertEqual(nearest(house=house, one=90, other=70), nearest(house, 90, 70))

    def test_the_house_is_not_changed(self):
        house = House(3, [2, 3])
        for _ in range(2):
            asked(house, 70), chain(house, 70), asked_often(house, 3, 70), led_from(house, 3, 4)
            hanging(house, 3, 70), nearest(house, 70, 60)
            self.assertEqual(house.beginning(), [2, 3])
            self.assertTrue(house == House(3, [2, 3]))


if __name__ == "__main__":
    unittest.main()
