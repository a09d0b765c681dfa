"""Houses: what is said at each place, and where each number is said."""

from askback.errors import BadHouse
from askback.kinds import is_row, is_whole, is_whole_from
from askback.signs import exponent_of, first_of, heap_of, noughts_of, power_of

GREATEST_K = 30


def is_k(thing):
    """Whether it is a k that a house may have."""
    return is_whole(thing) and 2 <= thing <= GREATEST_K


def is_beginning(k, thing):
    """Whether it is a beginning that a house of this k may have."""
    if not is_row(thing) or len(thing) != k - 1:
        return False
    return all([is_whole_from(many, 1) for many in thing])


def lessened_sums(beginning):
    """The sums of the beginning's numbers, each less one: of the first 0, 1, 2 .. of them."""
    sums = [0]
    for many in beginning:
        sums.append(sums[-1] + many - 1)
    return sums


class House:
    """A k and a beginning, behind which whoever comes asks k elder ones."""

    def __init__(self, k, beginning):
        if not is_k(k):
            raise BadHouse("k")
        if not is_beginning(k, beginning):
            raise BadHouse("beginning")
        self._k = k
        self._beginning = tuple(beginning)
        self._sums = lessened_sums(beginning)

    def __eq__(self, other):
        return isinstance(other, House) and self._k == other._k and self._beginning == other._beginning

    def base(self):
        """Its k."""
        return self._k

    def beginning(self):
        """How many of the beginning say 1, 2 and so on up to k - 1."""
        return list(self._beginning)

    def reach(self):
        """All numbers of the beginning, each less one, together."""
        return self._sums[-1]

    def folk(self):
        """How many folk the beginning has."""
        return sum(self._beginning)

    def said(self, place):
        """What is said at the place."""
        return self._said_out(place - 1) + 1

    def times(self, number):
        """How many times the number is said."""
        noughts = noughts_of(number, self._k)
        exponent, sign = first_of(number, self._k)
        # Only a first sign with nothing but noughts behind it comes from the beginning.
        if noughts == exponent:
            return noughts + self._beginning[sign - 1]
        return noughts + 1

    def first_place(self, number):
        """The first place where the number is said."""
        return self.last_place(number - 1) + 1

    def last_place(self, number):
        """The last place where the number is said; 0 of 0."""
        exponent, sign = first_of(number, self._k)
        return number + heap_of(number, self._k) + exponent * self.reach() + self._sums[sign]

    def _said_out(self, place):
        """The greatest number whose last place is at most this place, 0 where none is."""
        exponent, sign, ones = self._first_round(place)
        number = sign
        left = place - self._last_of_round(exponent, sign, ones)
        # Behind the first sign, a sign in a place adds itself times ones to the last place.
        for _ in range(exponent):
            ones = ones // self._k
            sign = min(self._k - 1, left // ones)
            left -= sign * ones
            number = number * self._k + sign
        return number

    def _first_round(self, place):
        """The exponent and the first sign of what is said out, and the ones that go with the exponent."""
        # Each number and its exponent times reach are at most its last place: so few exponents have to be tried.
        exponent = exponent_of(place, self._k)
        if self.reach() > 0:
            exponent = min(exponent, max(0, place // self.reach()))
        ones = (power_of(self._k, exponent + 1) - 1) // (self._k - 1)
        while exponent > 0 and self._last_of_round(exponent, 1, ones) > place:
            exponent -= 1
            ones = ones // self._k
        sign = 0
        while sign < self._k - 1 and self._last_of_round(exponent, sign + 1, ones) <= place:
            sign += 1
        return exponent, sign, ones

    def _last_of_round(self, exponent, sign, ones):
        """The last place of sign * k ** exponent; ones is 1 + k + .. + k ** exponent."""
        return sign * ones + exponent * self.reach() + self._sums[sign]


def house_of_sums(k, sums):
    """The house of this k whose beginning has these sums, each number less one, of the first 0, 1, 2 .. numbers."""
    return House(k, [sums[sign] - sums[sign - 1] + 1 for sign in range(1, k)])
