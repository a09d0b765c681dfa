"""Told marks: marks that fit all of them, or why none do.

Each told mark is a row of whole numbers, how many ways end on each number of
the beginning: marks fit it where they, so many times each, add up to it. Bound
one by one, each row takes one free at most; what it lacks has to be whole times
what that free adds up to in it. No row but those of the greatest first sign
goes from an end of the beginning to the other, and those are bound last, so no
two frees ever have a number that isn't 0 at one place, and numbers stay short.
"""

from math import gcd

from askback.errors import BadMark
from askback.kinds import are_whole, is_row, is_whole, is_whole_from
from askback.marks import signed_ways

FIT = "marks"
BAR = "bar"


def marks_by(house, told):
    """A tuple: ("marks", marks, frees) of marks that fit, or ("bar", times, by) where none do."""
    refuse_no_told(told)
    signed = [signed_ways(house, place) for place, _ in told]
    fit = Fitting(house.base() - 1)
    for number in sorted(range(len(told)), key=lambda one: signed[one][0]):
        row = signed[number][1]
        if not fit.bind(number, row, told[number][1]):
            times, by = fit.bar(number, row, [mark for _, mark in told])
            return BAR, times, by
    return FIT, fit.marks, fit.frees


def shows_marks(house, told, thing):
    """Whether it is, of anything, a tuple that may be told of the told marks."""
    refuse_no_told(told)
    if not isinstance(thing, tuple) or len(thing) != 3:
        return False
    word, one, other = thing
    if word == FIT:
        return shows_fit(house, told, one, other)
    return word == BAR and shows_bar_of_marks(house, told, one, other)


def refuse_no_told(told):
    """Refuse what is no list of told marks."""
    if not is_row(told):
        raise BadMark(0)
    for number, thing in enumerate(told):
        if not is_told_mark(thing):
            raise BadMark(number)


def is_told_mark(thing):
    """Whether it is a tuple of a place and a mark."""
    return isinstance(thing, tuple) and len(thing) == 2 and is_whole_from(thing[0], 1) and is_whole(thing[1])


class Fitting:
    """Marks that fit all rows bound so far, and the frees that can be added to them, whole times each."""

    def __init__(self, many):
        self.marks = [0] * many
        self.frees = [[1 if at == one else 0 for at in range(many)] for one in range(many)]
        # (number, row, free, by) of each row that took a free, and what that free adds up to in it.
        self.taken = []

    def bind(self, number, row, mark):
        """Bind the told mark of this number; False, and nothing is bound, where none of these marks fits it."""
        free, by, frees = parted_frees(self.frees, row)
        lack = mark - added(row, self.marks)
        if free is None:
            return lack == 0
        if lack % by != 0:
            return False
        self.taken.append((number, row, free, by))
        self.frees = frees
        self.marks = shortened(with_times(self.marks, lack // by, free), frees)
        return True

    def bar(self, number, row, told):
        """Why the row of this number can't be bound: how many times each told mark, and what doesn't divide them."""
        times = [0] * len(told)
        times[number] = 1
        rest = row
        # What the row has of each free that was taken is taken out of it, the last one first.
        for taken, taken_row, free, by in self.taken[::-1]:
            worth = added(rest, free)
            both = gcd(worth, by)
            times = [by // both * many for many in times]
            times[taken] -= worth // both
            rest = with_times([by // both * many for many in rest], -(worth // both), taken_row)
        by = times[number] * parted_frees(self.frees, row)[1]
        if by == 0:
            by = abs(added(times, told)) + 1
        return lessened(times, by)


def lessened(times, by):
    """The times and the number that doesn't divide them, with all left out that they don't need."""
    times = [many % by for many in times]
    common = by
    for many in times:
        common = gcd(common, many)
    return [many // common for many in times], by // common


def parted_frees(frees, row):
    """The frees made such that one at most adds up to anything in the row: that one, its worth, and the others.

    None and 0 stand where there is no such one; else its worth is from 1 on.
    """
    chosen, by, others = None, 0, []
    for free in frees:
        worth = added(row, free)
        if worth == 0:
            others.append(free)
        elif chosen is None:
            chosen, by = free, worth
        else:
            both, one, other = bezout(by, worth)
            others.append(with_times([worth // both * part for part in chosen], -(by // both), free))
            chosen, by = with_times([one * part for part in chosen], other, free), both
    if by < 0:
        return [-part for part in chosen], -by, others
    return chosen, by, others


def bezout(one, other):
    """The greatest number that divides both, and how many times each of them makes it up together."""
    ahead, now = (one, 1, 0), (other, 0, 1)
    while now[0] != 0:
        times = ahead[0] // now[0]
        ahead, now = now, tuple([part - times * taken for part, taken in zip(ahead, now)])
    return ahead


def added(row, numbers):
    """All the numbers, as many times each as the row has there, together."""
    return sum([many * number for many, number in zip(row, numbers)])


def with_times(numbers, times, others):
    """The numbers, with the others at their places so many times added."""
    return [number + times * other for number, other in zip(numbers, others)]


def last_at(free):
    """The last place in a free at which it isn't 0."""
    return max([at for at, part in enumerate(free) if part != 0])


def shortened(marks, frees):
    """Marks of the same that fit, whose numbers don't grow with each row that is bound."""
    for free in frees:
        at = last_at(free)
        marks = with_times(marks, -(marks[at] // free[at]), free)
    return marks


def shows_fit(house, told, marks, frees):
    """Whether the marks fit, and all that do are these with whole times the frees, each in one way."""
    many = house.base() - 1
    if not are_whole(marks, many) or not is_row(frees) or not all([are_whole(free, many) for free in frees]):
        return False
    for place, mark in told:
        row = signed_ways(house, place)[1]
        if added(row, marks) != mark or any([added(row, free) != 0 for free in frees]):
            return False
    _, _, own_frees = marks_by(house, told)
    return len(frees) == len(own_frees) and determinant(parts_of(frees, own_frees)) in (1, -1)


def parts_of(frees, own_frees):
    """How many times each of the own frees each of the frees is: no two of the own ones share a place."""
    places = [last_at(own) for own in own_frees]
    return [[free[at] // own[at] for at, own in zip(places, own_frees)] for free in frees]


def determinant(rows):
    """The determinant, but for its sign, of as many rows as each has numbers."""
    ahead = 1
    while rows:
        chosen = [row for row in rows if row[0] != 0]
        if not chosen:
            return 0
        first = chosen[0]
        others = chosen[1:] + [row for row in rows if row[0] == 0]
        # Each step's numbers are determinants themselves, so what was divided by a step ago divides them.
        rows = [[(first[0] * part - row[0] * taken) // ahead for part, taken in zip(row[1:], first[1:])]
                for row in others]
        ahead = first[0]
    return ahead


def shows_bar_of_marks(house, told, times, by):
    """Whether told marks, so many times each, add up to what no marks can: by divides all ways, and not the marks."""
    if not are_whole(times, len(told)) or not is_whole_from(by, 2):
        return False
    ways = [0] * (house.base() - 1)
    for (place, _), many in zip(told, times):
        ways = with_times(ways, many, signed_ways(house, place)[1])
    return all([way % by == 0 for way in ways]) and added(times, [mark for _, mark in told]) % by != 0
