"""Counts of places, round by round.

Numbers of one exponent and first sign are a round. Of a round's first number
the places that are counted are as many as the least of a few lines over the
exponents is. Each other number is counted as often as it is said more than so
many times, and the exponent less so many is, too, the least of a few lines. So
the rounds of a first sign are added up by pieces of lines, and not one by one.
"""

from askback.lines import least_at, pieces_of
from askback.signs import first_of, heap_of, power_of

# So few exponents are sooner gone one by one than by pieces.
FEW = 6


class Rounds:
    """A count of places.

    Told are, of the first signs up to some, the lines of the first numbers and
    the lines of the others; of all first signs where a round of an exponent
    from 1 on is asked for.
    """

    def __init__(self, k, rows):
        self.k = k
        self.rows = rows
        self.ones = [0, 1]
        self.first_pieces = None
        self.other_pieces = None

    def of_first(self, exponent, sign):
        """How many places are counted that say the round's first number."""
        return least_at(self.rows[sign - 1][0], exponent)

    def but(self, exponent, sign):
        """More than so many times the round's other numbers have to be said to be counted."""
        return exponent - least_at(self.rows[sign - 1][1], exponent)

    def of_rounds(self, exponent, signs):
        """How many places are counted of each round of this exponent, by the first signs up to so many: a list."""
        counts = []
        for firsts, others in self.rows[:signs]:
            counted = least_at(firsts, exponent)
            if exponent > 0:
                most = least_at(others, exponent) + 1
                # So often all numbers below a power are said, were the powers said as often as they have noughts.
                counted += self.ones_of(most) - most
            counts.append(counted)
        return counts

    def of_exponents(self, end):
        """How many places are counted of all rounds of exponents below the end."""
        if end <= FEW:
            return sum([sum(self.of_rounds(exponent, self.k - 1)) for exponent in range(end)])
        self.cut()
        self.ones_of(end)
        counted = 0
        for slope, worth, first, last in self.first_pieces:
            until = end - 1 if last is None else min(last, end - 1)
            if first <= until:
                counted += (until - first + 1) * (slope * (first + until) + 2 * worth) // 2
        for slope, worth, first, last in self.other_pieces:
            until = end - 1 if last is None else min(last, end - 1)
            if first <= until:
                counted += self.of_others(until - first + 1, slope * first + worth + 1, slope * until + worth + 1)
        return counted

    def of_ahead(self, number):
        """How many places are counted that say less than the number, from 1 on."""
        exponent, sign = first_of(number, self.k)
        rest = number - sign * power_of(self.k, exponent)
        counted = self.of_exponents(exponent) + sum(self.of_rounds(exponent, sign - 1))
        if rest > 0:
            rest = (rest - 1) // power_of(self.k, self.but(exponent, sign))
            counted += self.of_first(exponent, sign) + rest + heap_of(rest, self.k)
        return counted

    def exponent_of_nth(self, place, top):
        """The exponent of the j-th place that is counted, and how many of that exponent are ahead of it.

        None where the exponents below the top have no such place.
        """
        left = place
        for exponent in range(FEW):
            counted = sum(self.of_rounds(exponent, self.k - 1))
            if left < counted:
                return exponent, left
            left -= counted
        low, high = FEW, 2 * FEW
        while self.of_exponents(high) <= place:
            if high >= top:
                return None
            low, high = high, min(2 * high, top)
        while high - low > 1:
            middle = (low + high) // 2
            if self.of_exponents(middle) <= place:
                low = middle
            else:
                high = middle
        return low, place - self.of_exponents(low)

    def cut(self):
        """Cut all lines in pieces, once."""
        if self.first_pieces is None:
            self.first_pieces = [piece for firsts, _ in self.rows for piece in pieces_of(firsts)]
            self.other_pieces = [piece for _, others in self.rows for piece in pieces_of(others)]

    def of_others(self, many, one_end, other_end):
        """Of so many rounds, evenly from a most at one end to a most at the other end, all but the first numbers."""
        least, most = min(one_end, other_end), max(one_end, other_end)
        ones = self.ones
        if least == most:
            return many * (ones[most] - most)
        # The powers, of each most but the greatest one, are a geometric row: added up by its ends.
        powers = (ones[most] - ones[least]) // ones[(most - least) // (many - 1)]
        return ones[most] + (powers - many + 1) // (self.k - 1) - many * (least + most) // 2

    def ones_of(self, many):
        """The number that is written by k with so many ones."""
        while len(self.ones) <= many:
            self.ones.append(self.ones[-1] * self.k + 1)
        return self.ones[many]
