"""Papers of places ([16], and what [2], [4] say of them)."""

import random
import unittest

from askback.asking import chain
from askback.house import House
from askback.papers import paper_of, shows_paper
from tests.otherwise import ANYTHING, as_tuples, is_just, variants
from tests.plain import FAR, chains_by_rule, far_numbers, great_houses, is_as_told, said_by_rule, small_houses

UPTO = 260


def paper_by_rule(house, paper):
    """Whether it is a paper of its first place, as [16] says that it can be looked at without going."""
    k, reach, folk = house.base(), house.reach(), house.folk()
    told = None
    if folk < 999:
        told = [number for number, many in enumerate(house.beginning(), start=1) for _ in range(many)]
    for (place, number, first), (next_place, next_number, next_first) in zip(paper, paper[1:]):
        if number < k or next_place != place + 1 - reach - number:
            return False
        may_be_next = [(-(-number // k), True)] if first else [(number // k, False), (number // k + 1, True)]
        if (next_number, next_first) not in may_be_next or not first and number % k:
            return False
    place, number, first = paper[-1]
    if told is not None and (told[place - 1], place == 1 or told[place - 2] != number) != (number, first):
        return False
    return 1 <= place <= folk and number < k


def far_papers():
    chance = random.Random(161)
    rows = []
    for house in great_houses():
        for place in far_numbers() + [chance.randrange(1, 10 ** 60), house.last_place(FAR // 3), house.folk()]:
            rows.append((house, place, paper_of(house, place)))
    return rows


class PaperTest(unittest.TestCase):
    def test_against_chains_gone_one_by_one(self):
        for house, k, beginning in small_houses():
            said = said_by_rule(k, beginning, UPTO)
            chains = chains_by_rule(k, said)
            for place in range(1, UPTO + 1):
                paper = [(one, said[one], one == 1 or said[one - 1] != said[one]) for one in chains[place]]
                self.assertEqual(paper_of(house, place), paper)
                self.assertTrue(is_just(paper_of(house, place), paper))
                self.assertIs(shows_paper(house, place, paper), True)
                self.assertIs(shows_paper(house, place, tuple(paper)), True)

    def test_far(self):
        rows = far_papers()
        for house, place, paper in rows:
            self.assertTrue(is_as_told(paper))
            self.assertIs(type(paper), list)
            self.assertEqual([row[0] for row in paper], chain(house, place))
            self.assertEqual(paper[0][0], place)
            self.assertTrue(paper_by_rule(house, paper))
            for one, number, first in paper[:3] + paper[-3:]:
                self.assertEqual(number, house.said(one))
                self.assertIs(first, house.first_place(number) == one)
            self.assertIs(shows_paper(house, place, paper), True)
            self.assertIs(shows_paper(house, place, as_tuples(paper)), True)
        self.assertGreater(max(len(paper) for _, _, paper in rows), 600)

    def test_far_all_places_that_say_a_number(self):
        for house in great_houses():
            number = house.base() ** 9 * 5
            for place in range(house.first_place(number), house.first_place(number) + min(house.times(number), 30)):
                paper = paper_of(house, place)
                self.assertEqual([(house.said(one), house.first_place(house.said(one)) == one) for one, _, _ in paper],
                                 [row[1:] for row in paper])

    def test_not_let_by_with_one_thing_otherwise(self):
        chance = random.Random(162)
        for house, _, _ in small_houses():
            for place in {1, 2, house.folk(), house.folk() + 1, chance.randrange(1, 99), chance.randrange(1, 9999)}:
                paper = paper_of(house, place)
                for wrong in variants(paper):
                    self.assertIs(shows_paper(house, place, wrong), False, wrong)
        for house, place, paper in far_papers()[::7]:
            for wrong in variants(paper, 2):
                self.assertIs(shows_paper(house, place, wrong), False)

    def test_truths_and_numbers_are_not_exchanged(self):
        house = House(3, [2, 3])
        self.assertEqual(paper_of(house, 6), [(6, 3, True), (1, 1, True)])
        self.assertEqual(paper_of(house, 7), [(7, 3, False), (2, 1, False)])
        self.assertIs(shows_paper(house, 6, [(6, 3, True), (1, 1, True)]), True)
        for wrong in ([(6, 3, 1), (1, 1, True)], [(6, 3, True), (True, 1, True)], [(6, 3, True), (1, True, True)],
                      [(6, 3, True), (1, 1, 1)], [(6, 3, False), (1, 1, True)], [[6, 3, True], [1, 1, True]]):
            self.assertIs(shows_paper(house, 6, wrong), False)
        for wrong in ([(7, 3, 0), (2, 1, False)], [(7, 3, False), (2, 1, 0)], [(7, 3, True), (2, 1, False)]):
            self.assertIs(shows_paper(house, 7, wrong), False)

    def test_not_let_by_of_others(self):
        for house, k, beginning in small_houses():
            other = House(k, [beginning[0] + 1] + beginning[1:])
            for place in range(1, 60):
                paper = paper_of(house, place)
                for thing in ([paper_of(house, place + 1)] + ([paper_of(house, place - 1)] if place > 1 else [])):
                    self.assertIs(shows_paper(house, place, thing), False)
                self.assertIs(shows_paper(other, place, paper), paper_of(other, place) == paper)
                if len(paper) > 1:
                    self.assertIs(shows_paper(house, place, paper[:-1]), False)
                    self.assertIs(shows_paper(house, place, paper[1:]), False)
            for thing in ANYTHING:
                self.assertIs(shows_paper(house, 2, thing), is_just(thing, paper_of(house, 2)))
                self.assertIs(shows_paper(house, 10 ** 50, thing), False)

    def test_by_names_and_the_askers_own(self):
        house = House(4, (2, 1, 3))
        paper = paper_of(place=99, house=house)
        self.assertEqual(paper, paper_of(house, 99))
        self.assertIs(shows_paper(paper=paper, place=99, house=house), True)
        held = list(paper)
        paper.append((1, 1, True))
        self.assertEqual(paper_of(house, 99), held)
        self.assertIs(shows_paper(house, 99, paper), False)
        self.assertEqual(paper, held + [(1, 1, True)])


if __name__ == "__main__":
    unittest.main()
