"""Lines over exponents: the least of a few, and the pieces it is made of."""

import random
import unittest

from askback.lines import above_nought, least_at, pieces_of

UPTO = 90


def some_lines():
    """One to three lines, rising, level and falling, some even, some alike."""
    chance = random.Random(301)
    rows = [[(1, 0)], [(0, 1)], [(0, 0)], [(-1, 5)], [(1, 3), (1, 3)], [(0, 4), (0, 4), (0, 4)],
            [(2, -10), (-2, 10)], [(1, -5), (-1, 5)], [(3, -2), (0, 4), (-1, 6)], [(1, -9), (1, -8), (2, -40)]]
    for _ in range(1500):
        widest = chance.choice([2, 9, 60])
        rows.append([(chance.randrange(-3, 4), chance.randrange(-widest, widest + 1))
                     for _ in range(chance.randrange(1, 4))])
    for _ in range(100):
        rows.append([(1 - slope, -worth) for slope, worth in rows[-1]] + [(chance.randrange(-50, 50), 10 ** 30)])
    return rows


def by_rule(lines, exponent):
    return max(0, min(slope * exponent + worth for slope, worth in lines))


class LinesTest(unittest.TestCase):
    def test_the_least(self):
        for lines in some_lines():
            for exponent in (0, 1, 2, 7, 40, 10 ** 25):
                self.assertEqual(least_at(lines, exponent), by_rule(lines, exponent))

    def test_where_all_are_above_nought(self):
        for lines in some_lines():
            first, last = above_nought(lines)
            for exponent in range(UPTO):
                there = first <= exponent and (last is None or exponent <= last)
                self.assertEqual(there, by_rule(lines, exponent) > 0)
            if last is None or first <= last:
                self.assertEqual(last is None, all(slope > 0 or slope == 0 < worth for slope, worth in lines))

    def test_far_ends(self):
        self.assertEqual(above_nought([(1, -10 ** 50), (-1, 10 ** 60)]), (10 ** 50 + 1, 10 ** 60 - 1))
        self.assertEqual(above_nought([(10 ** 50, -10 ** 60)]), (10 ** 10 + 1, None))
        self.assertEqual(above_nought([(-10 ** 50, 10 ** 60)]), (0, 10 ** 10 - 1))
        self.assertEqual(above_nought([(2, -7), (-3, 11)]), (4, 3))

    def test_pieces_are_the_least(self):
        for lines in some_lines():
            pieces = pieces_of(lines)
            for slope, worth, first, last in pieces:
                self.assertIn((slope, worth), lines)
                self.assertTrue(0 <= first and (last is None or first <= last))
            for exponent in range(UPTO):
                here = [slope * exponent + worth for slope, worth, first, last in pieces
                        if first <= exponent and (last is None or exponent <= last)]
                least = by_rule(lines, exponent)
                self.assertEqual(here, [least] if least > 0 else [])


if __name__ == "__main__":
    unittest.main()
