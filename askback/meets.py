"""Where two houses of one k say the same, the second one moved.

Numbers of one exponent and first sign are a round. Within a round, behind its
first number, the other house says each number just as much later or earlier
than the first one, and the gap rises by even steps from exponent to exponent.
So whoever says a number more often than the gap is wide meets there.
"""

from askback.apart import pairs_of_sums
from askback.house import House
from askback.lines import above_nought
from askback.rounds import Rounds
from askback.signs import exponent_of, first_of, noughts_of, power_of

# Nothing is looked for at a place that has more figures.
FIGURES = 200


class Pair:
    """Two houses of one k and a move."""

    def __init__(self, one, other, by):
        self.gaps = [other_sum - one_sum - by for one_sum, other_sum in pairs_of_sums(one, other)]
        self.rise = other.reach() - one.reach()
        self.one = one
        self.k = one.base()
        self.many = one.beginning()

    def gap(self, exponent, sign):
        """By how much the other house has said out a number of this round later; of sign 0, of the round ahead."""
        return exponent * self.rise + self.gaps[sign]

    def meeting(self, number):
        """The first and the last place that meets saying the number, the last one less where none does."""
        exponent, sign = first_of(number, self.k)
        rest = number - sign * power_of(self.k, exponent)
        gap = self.gap(exponent, sign)
        if rest > 0:
            gap_ahead = gap
            times = noughts_of(rest, self.k) + 1
        else:
            gap_ahead = self.gap(exponent, sign - 1)
            times = exponent + self.many[sign - 1]
        last = self.one.last_place(number)
        return last - times + max(0, gap_ahead) + 1, last + min(0, gap)

    def met(self, signs):
        """The count of the places that meet, of the first signs up to so many."""
        return Rounds(self.k, [(self.met_firsts(sign), self.met_others(sign)) for sign in range(1, signs + 1)])

    def met_firsts(self, sign):
        """Lines over the exponents, the least of them is how many places meet that say a round's first number."""
        many, ahead, gap = self.many[sign - 1], self.gaps[sign - 1], self.gaps[sign]
        return [(1 - self.rise, many - ahead), (1 + self.rise, many + gap), (1, many + min(0, gap - ahead))]

    def met_others(self, sign):
        """Lines over the exponents, the least of them is the exponent less how wide the gap is."""
        gap = self.gaps[sign]
        return [(1 - self.rise, -gap), (1 + self.rise, gap)]

    def no_more(self, signs):
        """The count of the places where the first house says no more than the other one, of so many first signs."""
        rows = []
        for sign in range(1, signs + 1):
            many, ahead, gap = self.many[sign - 1], self.gaps[sign - 1], self.gaps[sign]
            rows.append(([(1 - self.rise, many - ahead), (1, many)], [(1 - self.rise, -gap), (1, 0)]))
        return Rounds(self.k, rows)


def same_many(one, other, below, *, by=0):
    """At how many places below the bound the first house says what the other one says, moved."""
    pair = Pair(one, other, by)
    if below <= 1:
        return 0
    number = one.said(below - 1)
    first, last = pair.meeting(number)
    rounds = pair.met(min(number, pair.k - 1))
    return rounds.of_ahead(number) + max(0, min(last, below - 1) - first + 1)


def more_many(one, other, below, *, by=0):
    """At how many places below the bound the first house says more than the other one says, moved."""
    pair = Pair(one, other, by)
    if below <= 1:
        return 0
    number = one.said(below - 1)
    first, _ = pair.meeting(number)
    rounds = pair.no_more(min(number, pair.k - 1))
    # Of those that say the number, the ones from there on don't say more.
    return below - 1 - rounds.of_ahead(number) - max(0, below - first)


def same_nth(one, other, place, *, by=0):
    """The j-th place that meets, from 0 on; None where it isn't below the end of all that is looked for."""
    pair = Pair(one, other, by)
    end = power_of(10, FIGURES)
    rounds = pair.met(pair.k - 1)
    there = rounds.exponent_of_nth(place, exponent_of(end, pair.k) + 1)
    if there is None:
        return None
    exponent, left = there
    counts = rounds.of_rounds(exponent, pair.k - 1)
    sign = 1
    while left >= counts[sign - 1]:
        left -= counts[sign - 1]
        sign += 1
    found = nth_in_round(pair, rounds, exponent, sign, left)
    return found if found < end else None


def nth_in_round(pair, rounds, exponent, sign, place):
    """The j-th place of the round that meets; there is one."""
    first = sign * power_of(pair.k, exponent)
    left = place - rounds.of_first(exponent, sign)
    if left < 0:
        return pair.meeting(first)[0] + place
    # The others that meet do so as often as 1, 2, 3 .. are said in a house of no reach.
    plain = House(pair.k, [1] * (pair.k - 1))
    nth = plain.said(left + 1)
    number = first + nth * power_of(pair.k, rounds.but(exponent, sign))
    return pair.meeting(number)[0] + left - plain.last_place(nth - 1)


def same_from(one, other, place, *, by=0):
    """The least place that meets, from this one on; None where it isn't below the end of all that is looked for."""
    pair = Pair(one, other, by)
    end = power_of(10, FIGURES)
    if place >= end:
        return None
    number = one.said(place)
    first, last = pair.meeting(number)
    if max(first, place) <= last:
        return max(first, place)
    number = next_met(pair, number, exponent_of(end, pair.k))
    if number is None:
        return None
    found = pair.meeting(number)[0]
    return found if found < end else None


def next_met(pair, number, greatest):
    """The least number behind this one that is said where the houses meet; None where its exponent is greater."""
    exponent, sign = first_of(number, pair.k)
    wide = abs(pair.gap(exponent, sign))
    if wide < exponent:
        # Further on in the round those meet that k divides so often; so does the first number of the round behind.
        step = power_of(pair.k, wide)
        return (number // step + 1) * step
    turns = []
    for later in range(1, pair.k):
        least = exponent if later > sign else exponent + 1
        first, last = above_nought(pair.met_firsts(later))
        if last is None or max(first, least) <= last:
            turns.append((max(first, least), later))
    exponent, sign = min(turns, default=(greatest + 1, 1))
    return sign * power_of(pair.k, exponent) if exponent <= greatest else None


def same_last(one, other, *, by=0):
    """How many signs the number has that is said at the last place that meets, and its first one.

    None where places meet without end, (0, 0) where none does.
    """
    pair = Pair(one, other, by)
    last = (0, 0)
    for sign in range(1, pair.k):
        # Where any number of a round meets, its first one does.
        least, most = above_nought(pair.met_firsts(sign))
        if most is None:
            return None
        if least <= most:
            last = max(last, (most + 1, sign))
    return last
