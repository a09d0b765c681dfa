"""Signs by k ([10])."""

import random
import unittest

from askback.signs import exponent_of, first_sign, heap_of, noughts_of, power_of, signs_of
from tests.plain import FAR

BASES = range(2, 31)


def signs_by_dividing(number, base):
    signs = []
    while number:
        signs.insert(0, number % base)
        number //= base
    return signs


def numbers_to_try(base):
    """Small ones, powers and their neighbours, and some of up to two hundred figures."""
    chance = random.Random(base)
    numbers = list(range(1, 70)) + [FAR, FAR - 1]
    for exponent in (1, 2, 3, 7, 40, 130):
        for sign in (1, 2, base - 1):
            power = sign * base ** exponent
            numbers += [power - 1, power, power + 1]
    numbers += [chance.randrange(1, 10 ** figures) for figures in (5, 30, 100, 200)]
    return [number for number in numbers if number > 0]


class SignsTest(unittest.TestCase):
    def test_signs_against_plain_dividing(self):
        for base in BASES:
            for number in numbers_to_try(base):
                self.assertEqual(signs_of(number, base), signs_by_dividing(number, base))

    def test_signs_add_up_and_are_a_list(self):
        for base in BASES:
            for number in numbers_to_try(base):
                signs = signs_of(number, base)
                self.assertIs(type(signs), list)
                self.assertEqual(sum(sign * base ** at for at, sign in enumerate(signs[::-1])), number)
                self.assertTrue(all(0 <= sign < base for sign in signs))
                self.assertGreater(signs[0], 0)

    def test_of_nought(self):
        for base in BASES:
            self.assertEqual(signs_of(0, base), [])
            self.assertEqual(heap_of(0, base), 0)

    def test_exponent_and_first_sign(self):
        for base in BASES:
            for number in numbers_to_try(base):
                exponent, sign = exponent_of(number, base), first_sign(number, base)
                self.assertTrue(1 <= sign <= base - 1)
                self.assertTrue(sign * base ** exponent <= number < (sign + 1) * base ** exponent)

    def test_of_powers_and_their_neighbours(self):
        for base in BASES:
            for exponent in range(1, 60):
                power = base ** exponent
                self.assertEqual((exponent_of(power, base), first_sign(power, base)), (exponent, 1))
                self.assertEqual(exponent_of(power - 1, base), exponent - 1)
                self.assertEqual(first_sign(power - 1, base), base - 1)
                self.assertEqual(exponent_of(power + 1, base), exponent)
                self.assertEqual(noughts_of(power, base), exponent)
                self.assertEqual(noughts_of(power + 1, base), 0)
                self.assertEqual(noughts_of(power - 1, base), 0)

    def test_of_great_powers_and_numbers_near_the_first_great_one(self):
        for base in BASES:
            for exponent in (61, 64, 127, 128, 129, 400, 663):
                for sign in (1, base - 1):
                    power = sign * base ** exponent
                    self.assertEqual((exponent_of(power, base), first_sign(power, base)), (exponent, sign))
                    last = power + base ** exponent - 1
                    self.assertEqual((exponent_of(last, base), first_sign(last, base)), (exponent, sign))
            for number in (10 ** 18 - 1, 10 ** 18, 10 ** 18 + 1, 2 ** 60, 2 ** 64, 10 ** 20):
                signs = signs_by_dividing(number, base)
                self.assertEqual((exponent_of(number, base), first_sign(number, base)), (len(signs) - 1, signs[0]))

    def test_powers(self):
        for base in BASES:
            for exponent in [*range(40), 135, 256, 664]:
                self.assertEqual(power_of(base, exponent), base ** exponent)

    def test_noughts_against_plain_dividing(self):
        for base in BASES:
            for number in numbers_to_try(base):
                noughts = noughts_of(number, base)
                self.assertEqual(number % base ** noughts, 0)
                self.assertNotEqual(number % base ** (noughts + 1), 0)

    def test_heap_against_plain_dividing(self):
        for base in BASES:
            for number in numbers_to_try(base):
                heap, power = 0, base
                while power <= number:
                    heap += number // power
                    power *= base
                self.assertEqual(heap_of(number, base), heap)

    def test_by_places_and_by_names(self):
        self.assertEqual(signs_of(11, 3), [1, 0, 2])
        self.assertEqual(signs_of(base=3, number=11), [1, 0, 2])
        self.assertEqual(exponent_of(57, 5), 2)
        self.assertEqual(exponent_of(base=5, number=57), 2)
        self.assertEqual(first_sign(57, 5), 2)
        self.assertEqual(first_sign(base=5, number=57), 2)
        self.assertEqual(noughts_of(54, 3), 3)
        self.assertEqual(noughts_of(base=3, number=54), 3)
        self.assertEqual(heap_of(57, 5), 13)
        self.assertEqual(heap_of(base=5, number=57), 13)

    def test_a_told_list_is_the_askers_own(self):
        told = signs_of(100, 7)
        told.append(9)
        self.assertEqual(signs_of(100, 7), [2, 0, 2])


if __name__ == "__main__":
    unittest.main()
