"""Marks ([17], and what [2], [4] say of them)."""

import random
import unittest

from askback.asking import asked
from askback.house import House
from askback.marks import mark_at, mark_paper, shows_mark, whence
from tests.plain import FAR, asks_by_rule, great_houses, is_as_told, said_by_rule, small_houses

UPTO = 250


def some_marks(k, chance, most=50):
    return [chance.randrange(-most, most + 1) for _ in range(k - 1)]


def far_marks(house):
    """Marks of up to a hundred figures."""
    return some_marks(house.base(), random.Random(house.base()), 10 ** 100 - 1)


def marks_by_rule(marks, said, asks):
    """The mark of each place that is gone."""
    found = [None]
    for place in range(1, len(said)):
        if asks[place] is None:
            found.append(marks[said[place] - 1])
        else:
            found.append(sum(found[one] if one >= 1 else marks[0] for one in asks[place]))
    return found


def ways_by_rule(said, asks):
    """Of each place that is gone, how many ways end on each number."""
    found = [None]
    for place in range(1, len(said)):
        ways = {}
        if asks[place] is None:
            ways[said[place]] = 1
        for one in asks[place] or []:
            for number, many in (found[one] if one >= 1 else {1: 1}).items():
                ways[number] = ways.get(number, 0) + many
        found.append(ways)
    return found


def far_places():
    chance = random.Random(41)
    return [10 ** 40, 2 ** 300, FAR] + [chance.randrange(1, 10 ** figures) for figures in (30, 60, 90, 199)]


def otherwise(paper, number):
    """The paper with one thing otherwise, in many ways; none of these is the paper."""
    yield from (paper[:-1], paper[1:], paper + [paper[-1]], paper + [(0, 0, 0)], paper + [None], [paper])
    yield from ([list(row) for row in paper], tuple(list(row) for row in paper), [paper[0]] + paper)
    yield from ({at: row for at, row in enumerate(paper)}, str(paper), None, True, number, paper[0], [], ())
    if len(paper) > 1:
        yield paper[::-1]
        yield [paper[1], paper[0]] + paper[2:]
    for at in sorted({0, 1, len(paper) // 2, len(paper) - 1} & set(range(len(paper)))):
        row = paper[at]
        wrong_rows = [row[:2], row + (1,), list(row), None, (row,), str(row), {0: row}, row[0]]
        for part in range(3):
            for worth in (row[part] + 1, row[part] - 1, None, str(row[part]), [row[part]], (row[part],), {}):
                wrong_rows.append(row[:part] + (worth,) + row[part + 1:])
            if row[part] in (0, 1):
                wrong_rows.append(row[:part] + (bool(row[part]),) + row[part + 1:])
        for wrong in wrong_rows:
            yield paper[:at] + [wrong] + paper[at + 1:]


class MarkTest(unittest.TestCase):
    def test_against_the_sums_of_those_who_are_asked(self):
        chance = random.Random(42)
        for house, k, beginning in small_houses():
            said = said_by_rule(k, beginning, UPTO)
            asks = asks_by_rule(k, said)
            for marks in (some_marks(k, chance), [0] * (k - 1), list(range(1, k)), [-1] * (k - 1)):
                by_rule = marks_by_rule(marks, said, asks)
                self.assertEqual([mark_at(house, marks, place) for place in range(1, UPTO + 1)], by_rule[1:])

    def test_far_it_is_the_sum_over_those_whom_it_asks(self):
        for house in great_houses():
            marks = far_marks(house)
            for place in far_places() + [house.folk() + 1, house.folk() * 2 + 9]:
                whom = asked(house, place)
                if whom is None:
                    self.assertEqual(mark_at(house, marks, place), marks[house.said(place) - 1])
                    continue
                born = [mark_at(house, marks, one) if one >= 1 else marks[0] for one in whom]
                self.assertEqual(mark_at(house, marks, place), sum(born))

    def test_marks_that_are_what_is_said(self):
        for house in great_houses():
            for place in far_places():
                marks = list(range(1, house.base()))
                self.assertEqual(mark_at(house, marks, place), house.said(place))

    def test_marks_as_a_tuple_and_unchanged(self):
        house, marks = House(4, [2, 1, 3]), [5, -7, 0]
        for place in (1, 4, 6, 7, 90, 10 ** 50):
            told = mark_at(house, marks, place)
            self.assertEqual(mark_at(house, tuple(marks), place), told)
            self.assertEqual(mark_paper(house, tuple(marks), place), mark_paper(house, marks, place))
            self.assertTrue(shows_mark(house, tuple(marks), place, mark_paper(house, marks, place)))
        self.assertEqual(marks, [5, -7, 0])


class WhenceTest(unittest.TestCase):
    def test_against_the_ways_gone_one_by_one(self):
        for house, k, beginning in small_houses():
            said = said_by_rule(k, beginning, UPTO)
            by_rule = ways_by_rule(said, asks_by_rule(k, said))
            for place in range(1, UPTO + 1):
                self.assertEqual(whence(house, place), sorted(by_rule[place].items()))

    def test_of_a_place_of_the_beginning_it_itself_alone(self):
        for house in great_houses():
            for place in (1, house.folk()):
                self.assertEqual(whence(house, place), [(house.said(place), 1)])

    def test_far_the_ways_each_times_its_mark_add_up(self):
        for house in great_houses():
            marks = far_marks(house)
            for place in far_places():
                told = whence(house, place)
                self.assertEqual(sum(many * marks[number - 1] for number, many in told),
                                 mark_at(house, marks, place))
                self.assertEqual([number for number, _ in told], sorted({number for number, _ in told}))
                self.assertTrue(all(many >= 1 and 1 <= number < house.base() for number, many in told))
                self.assertTrue(is_as_told(told))
                self.assertTrue(all(type(row) is tuple for row in told))

    def test_none_with_no_ways(self):
        house = House(5, [1, 1, 1, 1])
        self.assertEqual(whence(house, house.first_place(50)), [(2, 25)])
        self.assertEqual(whence(house, house.first_place(4 * 5 ** 60)), [(4, 5 ** 60)])
        self.assertEqual(whence(house, house.first_place(4 * 5 ** 60 + 1)), [(1, 5), (4, 5 ** 60 - 1)])
        self.assertEqual(whence(House(2, [3]), FAR), [(1, House(2, [3]).said(FAR))])


class PaperTest(unittest.TestCase):
    def test_what_it_holds(self):
        chance = random.Random(43)
        for house, k, beginning in small_houses():
            marks = some_marks(k, chance)
            said = said_by_rule(k, beginning, UPTO)
            born = dict(zip(said, marks_by_rule(marks, said, asks_by_rule(k, said))))
            for place in range(1, UPTO + 1):
                number = said[place]
                if number + 1 not in born:
                    continue
                rows = [(number, born[number], born[number + 1])]
                while number >= k:
                    number //= k
                    rows.append((number, born[number], born[number + 1]))
                self.assertEqual(mark_paper(house, marks, place), rows)

    def test_far_it_holds_marks_that_are_told(self):
        for house in great_houses():
            marks = far_marks(house)
            for place in far_places():
                paper = mark_paper(house, marks, place)
                self.assertTrue(is_as_told(paper))
                self.assertEqual(paper[0][0], house.said(place))
                self.assertTrue(1 <= paper[-1][0] < house.base())
                for row, below in zip(paper, paper[1:]):
                    self.assertEqual(row[0] // house.base(), below[0])
                for number, mark, following in paper[::40] + paper[-2:]:
                    self.assertEqual(mark, mark_at(house, marks, house.last_place(number)))
                    self.assertEqual(following, mark_at(house, marks, house.last_place(number) + 1))

    def test_a_look_lets_by_the_paper_also_as_a_tuple(self):
        for house in great_houses():
            marks = far_marks(house)
            for place in far_places() + [1]:
                paper = mark_paper(house, marks, place)
                self.assertIs(shows_mark(house, marks, place, paper), True)
                self.assertIs(shows_mark(house, marks, place, tuple(paper)), True)

    def test_a_look_lets_by_nothing_else(self):
        chance = random.Random(44)
        houses = [House(2, [1]), House(3, [2, 3]), House(3, [1, 4]), House(7, [2] * 6), House(2, [FAR])]
        for house in houses:
            for marks in (some_marks(house.base(), chance, 3), [0] * (house.base() - 1), [1] * (house.base() - 1)):
                for place in (1, 2, house.folk() + 1, 11, 60, 10 ** 9, 2 * FAR):
                    paper = mark_paper(house, marks, place)
                    for wrong in otherwise(paper, house.said(place)):
                        self.assertIs(shows_mark(house, marks, place, wrong), False, (paper, wrong))

    def test_the_paper_of_another_place_or_of_other_marks(self):
        house = House(3, [2, 3])
        paper = mark_paper(house, [1, 5], 90)
        self.assertFalse(shows_mark(house, [1, 6], 90, paper))
        self.assertFalse(shows_mark(house, [1, 5], 95, paper))
        self.assertFalse(shows_mark(House(3, [3, 2]), [1, 5], 95, paper))

    def test_a_told_list_is_the_askers_own_and_what_is_looked_at_unchanged(self):
        house, marks = House(3, [2, 3]), [1, 5]
        paper = mark_paper(house, marks, 90)
        kept = list(paper)
        self.assertTrue(shows_mark(house, marks, 90, paper))
        self.assertEqual(paper, kept)
        paper.append(5)
        whence(house, 90).append(5)
        self.assertEqual(mark_paper(house, marks, 90), kept)
        self.assertEqual(whence(house, 90), whence(House(3, [2, 3]), 90))
        self.assertFalse(shows_mark(house, marks, 90, paper))


class NamesTest(unittest.TestCase):
    def test_by_places_and_by_names(self):
        house, marks = House(3, [2, 3]), [4, -9]
        paper = mark_paper(house, marks, 50)
        self.assertEqual(mark_at(place=50, marks=marks, house=house), mark_at(house, marks, 50))
        self.assertEqual(whence(place=50, house=house), whence(house, 50))
        self.assertEqual(mark_paper(place=50, marks=marks, house=house), paper)
        self.assertTrue(shows_mark(paper=paper, place=50, marks=marks, house=house))
        self.assertTrue(shows_mark(house, marks, 50, paper))


if __name__ == "__main__":
    unittest.main()
