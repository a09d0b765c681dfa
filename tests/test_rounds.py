"""Counts by rounds: added up by pieces as one by one."""

import random
import unittest

from askback.rounds import FEW, Rounds

UPTO = 45


def some_rounds():
    """Counts of few and of many first signs, with lines as two houses give them, and with steep ones."""
    chance = random.Random(302)
    found = []
    for number in range(160):
        k = chance.choice([2, 2, 3, 4, 10, 30])
        rise = chance.choice([0, 0, 1, -1, 2, -2, 3, -7, 19, 10 ** 40])
        rows = []
        for _ in range(k - 1):
            many, ahead, gap = [chance.randrange(-40, 41) for _ in range(3)]
            firsts = [(1 - rise, many - ahead), (1 + rise, many + gap), (1, many)]
            others = [(1 - rise, -gap), (1 + rise, gap)] if number % 2 else [(1 - rise, -gap), (1, 0)]
            rows.append((firsts, others))
        found.append((k, rows))
    return found


def of_round(k, row, exponent):
    """How many places of a round are counted, number by number, by how often k divides them."""
    firsts, others = [max(0, min(slope * exponent + worth for slope, worth in lines)) for lines in row]
    # Of the numbers behind the first one that k divides so often, all but those that it divides once more.
    numbers = [k ** (exponent - noughts) - k ** (exponent - noughts - 1) for noughts in range(exponent)]
    but = exponent - others
    return firsts + sum(many * max(0, noughts + 1 - but) for noughts, many in enumerate(numbers))


class RoundsTest(unittest.TestCase):
    def test_rounds(self):
        for k, rows in some_rounds()[:40]:
            rounds = Rounds(k, rows)
            for exponent in (0, 1, 2, 9, UPTO - 1):
                told = [of_round(k, row, exponent) for row in rows]
                self.assertEqual(rounds.of_rounds(exponent, k - 1), told)
                self.assertEqual(rounds.of_rounds(exponent, 1), told[:1])
                self.assertEqual(rounds.of_rounds(exponent, 0), [])

    def test_many_exponents_are_added_up_as_one_by_one(self):
        self.assertLess(FEW, UPTO)
        for k, rows in some_rounds():
            total = 0
            rounds = Rounds(k, rows)
            for end in range(UPTO):
                self.assertEqual(rounds.of_exponents(end), total)
                self.assertEqual(Rounds(k, rows).of_exponents(end), total)
                total += sum(of_round(k, row, end) for row in rows)

    def test_the_exponent_of_the_nth(self):
        chance = random.Random(303)
        for k, rows in some_rounds():
            ends = [Rounds(k, rows).of_exponents(end) for end in range(UPTO)]
            for place in {0, 1, 5, *[chance.randrange(ends[-1] + 1) for _ in range(3)], *ends[::9], ends[-1] - 1}:
                if place < 0:
                    continue
                found = Rounds(k, rows).exponent_of_nth(place, UPTO - 1)
                if place >= ends[-1]:
                    self.assertIsNone(found)
                    continue
                exponent, ahead = found
                self.assertTrue(ends[exponent] <= place < ends[exponent + 1])
                self.assertEqual(ends[exponent] + ahead, place)


if __name__ == "__main__":
    unittest.main()
