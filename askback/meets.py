"""Where two houses of one k say the same, the second one moved.

Numbers of one exponent and first sign are a round. Within a round, behind its
first number, the other house says each number just as much later or earlier
than the first one, and the gap rises by even steps from exponent to exponent.
So whoever says a number at least as often as the gap is wide, and once more,
meets there, and how many do is counted by how often k divides the numbers.
"""

from askback.apart import pairs_of_sums
from askback.signs import exponent_of, first_sign, heap_of, power_of

# Nothing is looked for at a place that has more figures.
FIGURES = 200


class Pair:
    """Two houses of one k and a move."""

    def __init__(self, one, other, by):
        self.gaps = [other_sum - one_sum - by for one_sum, other_sum in pairs_of_sums(one, other)]
        self.rise = other.reach() - one.reach()
        self.one = one
        self.other = other
        self.by = by
        self.many = one.beginning()

    def gap(self, exponent, sign):
        """By how much the other house has said out a number of this round later; of sign 0, of the round ahead."""
        return exponent * self.rise + self.gaps[sign]

    def meeting(self, number):
        """The first and the last place that meets saying the number, the last one less where none does."""
        first = max(self.one.last_place(number - 1), self.other.last_place(number - 1) - self.by) + 1
        last = min(self.one.last_place(number), self.other.last_place(number) - self.by)
        return first, last

    def met_first(self, exponent, sign):
        """How many places meet saying the first number of the round."""
        times = exponent + self.many[sign - 1]
        first = max(0, self.gap(exponent, sign - 1))
        last = min(times, times + self.gap(exponent, sign))
        return max(0, last - first)

    def more_first(self, exponent, sign):
        """At how many places that say the first number of the round the other house says less."""
        return max(0, min(exponent + self.many[sign - 1], self.gap(exponent, sign - 1)))


def same_many(one, other, below, *, by=0):
    """At how many places below the bound the first house says what the other one says, moved."""
    pair = Pair(one, other, by)
    if below <= 1:
        return 0
    number = one.said(below - 1)
    first, last = pair.meeting(number)
    shares, rounds = rounds_upto(one.base(), number - 1)
    met = sum([met_in_round(pair, shares, turn) for turn in rounds])
    return met + max(0, min(last, below - 1) - first + 1)


def more_many(one, other, below, *, by=0):
    """At how many places below the bound the first house says more than the other one says, moved."""
    pair = Pair(one, other, by)
    if below <= 1:
        return 0
    number = one.said(below - 1)
    ahead = one.last_place(number - 1)
    last = min(below - 1, other.last_place(number - 1) - by)
    shares, rounds = rounds_upto(one.base(), number - 1)
    return sum([more_in_round(pair, shares, turn) for turn in rounds]) + max(0, last - ahead)


def same_nth(one, other, place, *, by=0):
    """The j-th place that meets, from 0 on; None where it isn't below the end of all that is looked for."""
    pair = Pair(one, other, by)
    end = power_of(10, FIGURES)
    shares, rounds = rounds_upto(one.base(), one.said(end - 1))
    left = place
    for turn in rounds:
        met = met_in_round(pair, shares, turn)
        if left < met:
            found = nth_in_round(pair, turn[0], turn[1], left)
            return found if found < end else None
        left -= met
    return None


def same_from(one, other, place, *, by=0):
    """The least place that meets, from this one on; None where it isn't below the end of all that is looked for."""
    return same_nth(one, other, same_many(one, other, place, by=by), by=by)


def same_last(one, other, *, by=0):
    """How many signs the number has that is said at the last place that meets, and its first one.

    None where places meet without end, (0, 0) where none does.
    """
    pair = Pair(one, other, by)
    last = (0, 0)
    for sign in range(1, one.base()):
        many = signs_of_last(pair, sign)
        if many is None:
            return None
        if many > 0:
            last = max(last, (many, sign))
    return last


def signs_of_last(pair, sign):
    """How many signs the greatest number with this first one has that is said where the houses meet.

    None where there is no greatest, 0 where there is none. Where any number of
    a round is met, its first number is; that one is where the exponent times
    each slope is at least the worth beside it.
    """
    many = pair.many[sign - 1]
    rows = [(1 - pair.rise, 1 - many + pair.gaps[sign - 1]), (1 + pair.rise, 1 - many - pair.gaps[sign])]
    least, most = 0, None
    for slope, worth in rows:
        if slope > 0:
            least = max(least, -(-worth // slope))
        elif slope < 0:
            # The slopes come to 2 together, so one of them at most falls.
            most = -worth // -slope
        elif worth > 0:
            return 0
    if most is None:
        return None
    return most + 1 if most >= least else 0


def rounds_upto(base, number):
    """What their shares are, and (exponent, sign, last) of each round up to the number.

    Last is the number itself in its own round, else None.
    """
    greatest, last_sign = exponent_of(number, base), first_sign(number, base)
    shares = shares_of(base, greatest)
    if number == 0:
        return shares, []
    whole = [(exponent, sign, None) for exponent in range(greatest) for sign in range(1, base)]
    begun = [(greatest, sign, None) for sign in range(1, last_sign)]
    return shares, [*whole, *begun, (greatest, last_sign, number)]


def met_in_round(pair, shares, turn):
    """How many places of the round meet."""
    exponent, sign, last = turn
    wide = abs(pair.gap(exponent, sign))
    return pair.met_first(exponent, sign) + said_behind(pair.one.base(), exponent, wide, last, shares)


def more_in_round(pair, shares, turn):
    """How many places of the round say more than the other house."""
    exponent, sign, last = turn
    base = pair.one.base()
    gap = max(0, pair.gap(exponent, sign))
    # Each number is said as often later as the gap is wide, if it is said so often.
    all_said = said_behind(base, exponent, 0, last, shares)
    return pair.more_first(exponent, sign) + all_said - said_behind(base, exponent, gap, last, shares)


def shares_of(base, exponent):
    """Of 0, 1, 2 .. up to the exponent: how often all numbers less than the base to it are said, from 1 on."""
    shares = [0]
    power = base
    for _ in range(exponent):
        shares.append(shares[-1] + power - 1)
        power = power * base
    return shares


def said_behind(base, exponent, but, last, shares):
    """How often all numbers of a round behind its first one are said, but for so many times each.

    Up to the last one told, or all where none is.
    """
    if last is None:
        return shares[max(0, exponent - but)]
    # At most so often does k divide any of them.
    if but > exponent:
        return 0
    power = power_of(base, exponent)
    rest = (last - last // power * power) // power_of(base, but)
    return rest + heap_of(rest, base)


def nth_in_round(pair, exponent, sign, place):
    """The j-th place of the round that meets; there is one."""
    base = pair.one.base()
    power = power_of(base, exponent)
    left = place - pair.met_first(exponent, sign)
    first = sign * power
    if left < 0:
        return pair.meeting(first)[0] + place
    wide = abs(pair.gap(exponent, sign))
    # The number is halved for among all behind the first one.
    least, most = first + 1, first + power - 1
    while least < most:
        middle = (least + most) // 2
        if said_behind(base, exponent, wide, middle, None) > left:
            most = middle
        else:
            least = middle + 1
    return pair.meeting(least)[0] + left - said_behind(base, exponent, wide, least - 1, None)
