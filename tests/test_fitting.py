"""Told marks ([18], and what [2], [3], [4] say of them)."""

import copy
import random
import unittest
from fractions import Fraction
from itertools import combinations
from math import gcd

from askback.errors import BadMark
from askback.fitting import marks_by, shows_marks
from askback.house import House
from askback.marks import mark_at, whence
from tests.otherwise import ANYTHING, as_tuples, variants
from tests.plain import FAR, NO_LISTS, asks_by_rule, great_houses, is_as_told, said_by_rule, small_houses
from tests.test_marks import marks_by_rule, ways_by_rule

UPTO = 90

NO_TOLD_MARKS = [
    None, True, False, 0, 1, "", "1 1", [], (), {}, [1, 1], [1], (1,), (1, 1, 1), ((1, 1),), [(1, 1)], {1: 1},
    (0, 1), (-1, 1), (True, 1), (False, 1), (1, True), (1, False), (None, 1), (1, None), ("1", 1), (1, "1"),
    ([1], 1), (1, [1]), ((1,), 1), (1, (1,)), ({}, 1), (1, {}), (-10 ** 60, 10 ** 60),
]


def row_of(house, place):
    """How many ways end on each number of the beginning."""
    ways = dict(whence(house, place))
    return [ways.get(number, 0) for number in range(1, house.base())]


def rank_of(rows):
    """How many of the rows are free of each other."""
    rows = [[Fraction(part) for part in row] for row in rows]
    rank = 0
    for at in range(len(rows[0]) if rows else 0):
        first = next((row for row in rows[rank:] if row[at]), None)
        if first is None:
            continue
        rows.remove(first)
        rows = rows[:rank] + [first] + [[part - row[at] / first[at] * taken for part, taken in zip(row, first)]
                                        for row in rows[rank:]]
        rank += 1
    return rank


def determinant_by_rule(rows):
    """The determinant, worked out along the first row."""
    if not rows:
        return 1
    return sum((-1) ** at * rows[0][at] * determinant_by_rule([row[:at] + row[at + 1:] for row in rows[1:]])
               for at in range(len(rows)))


def are_primitive(rows, many):
    """Whether whole rows that are made of these by parts are made of them by whole times, and each in one way."""
    together = 0
    for columns in combinations(range(many), len(rows)):
        together = gcd(together, determinant_by_rule([[row[at] for at in columns] for row in rows]))
    return together == 1


def are_numbers(thing, many):
    return type(thing) in (list, tuple) and len(thing) == many and all(type(part) is int for part in thing)


def worth(row, numbers):
    return sum(one * other for one, other in zip(row, numbers))


def may_be_told(house, told, thing):
    """Whether the thing may be told, as [18] says it."""
    many = house.base() - 1
    rows = [row_of(house, place) for place, _ in told]
    marks_told = [mark for _, mark in told]
    if type(thing) is not tuple or len(thing) != 3 or type(thing[0]) is not str:
        return False
    word, one, other = thing
    if word == "bar":
        if not are_numbers(one, len(told)) or type(other) is not int or other < 2:
            return False
        ways = [sum(times * row[at] for times, row in zip(one, rows)) for at in range(many)]
        return all(way % other == 0 for way in ways) and worth(one, marks_told) % other != 0
    if word != "marks" or not are_numbers(one, many) or type(other) not in (list, tuple):
        return False
    if not all(are_numbers(free, many) for free in other):
        return False
    if [worth(row, one) for row in rows] != marks_told:
        return False
    if any(worth(row, free) for row in rows for free in other):
        return False
    return len(other) == many - rank_of(rows) and are_primitive([list(free) for free in other], many)


def few_told(house, chance, drawn=True, most=6):
    """Told marks of places that are near, brought by drawn marks, or any."""
    k = house.base()
    marks = [chance.randrange(-9, 10) for _ in range(k - 1)]
    places = [chance.randrange(1, UPTO) for _ in range(chance.randrange(most + 1))]
    return [(place, mark_at(house, marks, place) if drawn else chance.randrange(-9, 10)) for place in places]


def far_told(house, chance, many, drawn=True):
    k = house.base()
    marks = [chance.randrange(-10 ** 99, 10 ** 99) for _ in range(k - 1)]
    places = [chance.randrange(1, 10 ** chance.randrange(1, 200)) for _ in range(many)]
    return [(place, mark_at(house, marks, place) if drawn else chance.randrange(-10 ** 99, 10 ** 99))
            for place in places]


def mixed(frees, chance):
    """Frees of the same that they let be, mixed otherwise."""
    frees = [list(free) for free in frees]
    for _ in range(12):
        if len(frees) > 1:
            one, other = chance.sample(range(len(frees)), 2)
            times = chance.randrange(-3, 4)
            frees[one] = [part + times * more for part, more in zip(frees[one], frees[other])]
    chance.shuffle(frees)
    return [[-part for part in free] if chance.random() < 0.5 else free for free in frees]


def others_that_may_be_told(answer, chance):
    """Other answers of the same that may be told."""
    word, one, other = answer
    if word == "bar":
        return [(word, [times + other * chance.randrange(-3, 4) for times in one], other),
                (word, [-times for times in one], other),
                (word, [5 * times for times in one], 5 * other)]
    moved = list(one)
    for free in other:
        times = chance.randrange(-10 ** 30, 10 ** 30)
        moved = [part + times * more for part, more in zip(moved, free)]
    return [(word, moved, other), (word, one, mixed(other, chance)), (word, moved, mixed(other, chance)[::-1])]


class FitTest(unittest.TestCase):
    def told_right(self, house, told, answer):
        self.assertTrue(is_as_told(answer))
        self.assertIs(type(answer), tuple)
        self.assertTrue(may_be_told(house, told, answer) if house.base() < 8 else True, (told, answer))
        self.assertIs(shows_marks(house, told, answer), True)
        self.assertIs(shows_marks(house, tuple(told), as_tuples(answer)), True)

    def test_drawn_marks_against_the_rule(self):
        chance = random.Random(181)
        for house, k, beginning in small_houses():
            said = said_by_rule(k, beginning, UPTO)
            asks = asks_by_rule(k, said)
            for _ in range(12):
                drawn = [chance.randrange(-20, 21) for _ in range(k - 1)]
                by_rule = marks_by_rule(drawn, said, asks)
                places = [chance.randrange(1, UPTO) for _ in range(chance.choice([0, 1, 2, 3, k - 1, k, 2 * k]))]
                told = [(place, by_rule[place]) for place in places]
                answer = marks_by(house, told)
                self.assertEqual(answer[0], "marks")
                self.told_right(house, told, answer)
                _, marks, frees = answer
                found = marks_by_rule(marks, said, asks)
                self.assertTrue(all(found[place] == mark for place, mark in told))
                for free in frees:
                    found = marks_by_rule(free, said, asks)
                    self.assertTrue(all(found[place] == 0 for place, _ in told))
                ways = ways_by_rule(said, asks)
                rows = [[ways[place].get(number, 0) for number in range(1, k)] for place in places]
                self.assertEqual(len(frees), k - 1 - rank_of(rows))
                self.whole_times(drawn, marks, frees)

    def whole_times(self, drawn, marks, frees):
        """That drawn marks are the marks with whole times the frees."""
        rest = [Fraction(one - other) for one, other in zip(drawn, marks)]
        rows = [[Fraction(part) for part in free] for free in frees]
        # The frees that are told can be gone through place by place: each place is of one of them at most.
        for row in rows:
            at = next(at for at, part in enumerate(row) if part)
            self.assertTrue(all(other is row or other[at] == 0 for other in rows))
            times = rest[at] / row[at]
            self.assertEqual(times.denominator, 1)
            rest = [part - times * more for part, more in zip(rest, row)]
        self.assertEqual(set(rest) - {0}, set())

    def test_any_marks(self):
        chance = random.Random(182)
        words = {"marks": 0, "bar": 0}
        for house, k, _ in small_houses():
            for _ in range(30):
                told = few_told(house, chance, chance.random() < 0.3)
                if told and chance.random() < 0.3:
                    told.append((told[0][0], told[0][1] + chance.randrange(-1, 2)))
                answer = marks_by(house, told)
                self.told_right(house, told, answer)
                words[answer[0]] += 1
        self.assertGreater(min(words.values()), 200)

    def test_none_where_the_document_can_be_gone_by(self):
        # Of k 2 place n bears what is said there times the one mark.
        house = House(2, [1])
        self.assertEqual(house.said(10), 6)
        self.assertEqual(marks_by(house, [(10, 42)]), ("marks", [7], []))
        word, times, by = marks_by(house, [(10, 43)])
        self.assertEqual(word, "bar")
        self.assertTrue(times[0] * 6 % by == 0 and times[0] * 43 % by != 0)
        # Marks may be told twice, alike and otherwise.
        self.assertEqual(marks_by(house, [(10, 42), (10, 42)]), ("marks", [7], []))
        self.assertEqual(marks_by(house, [(10, 42), (10, 48)])[0], "bar")
        self.assertEqual(marks_by(house, [(10, 42), (1, 8)])[0], "bar")
        # Places of the beginning bear their own marks.
        house = House(4, [2, 1, 3])
        answer = marks_by(house, [(1, 5), (2, 5), (3, -7), (6, 0)])
        self.assertEqual(answer, ("marks", [5, -7, 0], []))
        self.assertEqual(marks_by(house, [(1, 5), (2, 6)])[0], "bar")

    def test_nothing_told(self):
        for house in [House(2, [1]), House(3, [4, 1]), House(30, [2] * 29)] + great_houses():
            for told in ([], ()):
                word, marks, frees = marks_by(house, told)
                self.assertEqual(word, "marks")
                self.assertEqual((len(marks), len(frees)), (house.base() - 1, house.base() - 1))
                self.assertIs(shows_marks(house, told, (word, marks, frees)), True)
                self.assertIs(shows_marks(house, told, (word, [10 ** 99] * len(marks), frees[::-1])), True)
                self.assertIs(shows_marks(house, told, ("bar", [], 2)), False)
                self.assertIs(shows_marks(house, told, (word, marks, frees[1:])), False)
                self.assertIs(shows_marks(house, told, (word, marks, [])), False)

    def test_far(self):
        chance = random.Random(183)
        for at, house in enumerate(great_houses()):
            for many in (1, house.base() - 1, 200 if at % 4 == 0 else 40):
                told = far_told(house, chance, many)
                answer = marks_by(house, told)
                self.assertEqual(answer[0], "marks")
                self.told_right(house, told, answer)
                for place, mark in told[:20]:
                    self.assertEqual(mark_at(house, answer[1], place), mark)
                    self.assertTrue(all(mark_at(house, free, place) == 0 for free in answer[2]))
                for other in others_that_may_be_told(answer, chance):
                    self.assertIs(shows_marks(house, told, other), True)
                told.append((told[0][0], told[0][1] + 1))
                chance.shuffle(told)
                self.bar_is_right(house, told, marks_by(house, told), chance)
                told = far_told(house, chance, max(many, house.base()), False)
                answer = marks_by(house, told)
                if answer[0] == "bar":
                    self.bar_is_right(house, told, answer, chance)
                else:
                    self.told_right(house, told, answer)

    def bar_is_right(self, house, told, answer, chance):
        word, times, by = answer
        self.assertEqual((word, len(times), by >= 2), ("bar", len(told), True))
        ways = {}
        for (place, _), many in zip(told, times):
            for number, way in whence(house, place):
                ways[number] = ways.get(number, 0) + many * way
        self.assertTrue(all(way % by == 0 for way in ways.values()))
        self.assertNotEqual(sum(mark * many for (_, mark), many in zip(told, times)) % by, 0)
        for other in [answer] + others_that_may_be_told(answer, chance):
            self.assertIs(shows_marks(house, told, other), True)
        self.assertIs(shows_marks(house, told, (word, times, 1)), False)
        self.assertIs(shows_marks(house, told, (word, [0] * len(times), by)), False)
        self.assertIs(shows_marks(house, told, (word, times[:-1], by)), False)

    def test_frees_of_all_sorts_far(self):
        chance = random.Random(184)
        for house in great_houses()[-5:]:
            told = far_told(house, chance, 5)
            word, marks, frees = marks_by(house, told)
            self.assertGreaterEqual(len(frees), 3)
            for _ in range(3):
                other = mixed(mixed(mixed(frees, chance), chance), chance)
                self.assertIs(shows_marks(house, told, (word, marks, other)), True)
                at = chance.randrange(len(other))
                for many in (2, 3, 0, -2):
                    wrong = other[:at] + [[many * part for part in other[at]]] + other[at + 1:]
                    self.assertIs(shows_marks(house, told, (word, marks, wrong)), False)
                both = [[one + more for one, more in zip(other[0], other[1])],
                        [one - more for one, more in zip(other[0], other[1])]]
                self.assertIs(shows_marks(house, told, (word, marks, both + other[2:])), False)
                self.assertIs(shows_marks(house, told, (word, marks, other[:1] + other[:-1])), False)
                self.assertIs(shows_marks(house, told, (word, marks, other[1:])), False)
                self.assertIs(shows_marks(house, told, (word, marks, other + other[:1])), False)
                self.assertIs(shows_marks(house, told, (word, marks, other + [[0] * len(marks)])), False)


class LookTest(unittest.TestCase):
    def test_let_by_just_what_may_be_told(self):
        chance = random.Random(185)
        let_by = looked_at = 0
        for house, k, _ in small_houses():
            if k > 4:
                continue
            for _ in range(4):
                told = few_told(house, chance, chance.random() < 0.5, 3)
                answer = marks_by(house, told)
                for right in [answer] + others_that_may_be_told(answer, chance):
                    self.assertTrue(may_be_told(house, told, right))
                    self.assertIs(shows_marks(house, told, right), True)
                    self.assertIs(shows_marks(house, told, as_tuples(right)), True)
                    for wrong in variants(right):
                        let = may_be_told(house, told, wrong)
                        self.assertIs(shows_marks(house, told, wrong), let, (told, wrong))
                        let_by += let
                        looked_at += 1
                for wrong in ANYTHING:
                    self.assertIs(shows_marks(house, told, wrong), may_be_told(house, told, wrong))
        self.assertGreater(looked_at, 5000)
        self.assertGreater(let_by, 50)

    def test_frees_doubled_twice_left_out_and_more(self):
        chance = random.Random(186)
        for house, k, _ in small_houses():
            told = few_told(house, chance, True, 2)
            word, marks, frees = marks_by(house, told)
            for at, free in enumerate(frees):
                doubled = frees[:at] + [[2 * part for part in free]] + frees[at + 1:]
                for wrong in (doubled, frees + [free], frees[:at] + frees[at + 1:], frees + [[0] * (k - 1)],
                              frees[:at] + [[0] * (k - 1)] + frees[at + 1:]):
                    self.assertIs(shows_marks(house, told, (word, marks, wrong)), False)
            for wrong in ((word, marks, frees + [[1] + [0] * (k - 2)]), [word, marks, frees], (word, marks),
                          ("Marks", marks, frees), ("bar", marks, frees), (word, frees, marks),
                          (word, marks, {at: free for at, free in enumerate(frees)}), (word, marks + [0], frees),
                          (word, [bool(mark) for mark in marks], frees), (word, marks, None)):
                self.assertIs(shows_marks(house, told, wrong), False)


class RefusalTest(unittest.TestCase):
    def refused(self, number, told):
        house = House(3, [2, 3])
        for call in (lambda: marks_by(house, told), lambda: shows_marks(house, told, ("marks", [1, 1], [])),
                     lambda: shows_marks(house, told, None)):
            with self.assertRaises(BadMark) as caught:
                call()
            self.assertEqual(caught.exception.number, number)
            self.assertIs(type(caught.exception.number), int)

    def test_the_first_that_is_none(self):
        for wrong in NO_TOLD_MARKS:
            self.refused(0, [wrong])
            self.refused(0, (wrong,))
            self.refused(2, [(1, 1), (9, -1), wrong, (1, 1), None])
            self.refused(199, [(1, 1)] * 199 + [wrong])

    def test_no_list(self):
        for wrong in NO_LISTS + ["", "ab", {1: 1}, {(1, 1): 1}, (1, 1)]:
            self.refused(0, wrong)

    def test_what_is_told_is_the_askers_own(self):
        house = House(4, [2, 1, 3])
        told = [(place, mark_at(house, [3, -1, 2], place)) for place in (9, 30)]
        held = copy.deepcopy(told)
        answer = marks_by(told=told, house=house)
        self.assertEqual(answer, marks_by(house, told))
        self.assertEqual(marks_by(house, tuple(told)), answer)
        first = copy.deepcopy(answer)
        self.assertIs(shows_marks(thing=answer, told=told, house=house), True)
        answer[1].append(7)
        answer[2].append([1])
        self.assertEqual(marks_by(house, told), first)
        self.assertEqual(told, held)
        thing = copy.deepcopy(first)
        shows_marks(house, told, thing)
        self.assertEqual(thing, first)


if __name__ == "__main__":
    unittest.main()
