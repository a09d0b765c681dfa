"""Marks: each of the beginning bears one by what it says, whoever comes the sum of those whom it asks."""

from askback.kinds import is_same
from askback.signs import exponent_of, first_sign, power_of, signs_of


def mark_at(house, marks, place):
    """The mark at the place."""
    return mark_paper(house, marks, place)[0][1]


def whence(house, place):
    """How many ways of asking, again and again, end on each number of the beginning, as (number, ways), rising."""
    _, ways = signed_ways(house, place)
    return [(ended, many) for ended, many in enumerate(ways, start=1) if many > 0]


def signed_ways(house, place):
    """The first sign of what is said at the place, and how many ways end on each number of the beginning."""
    base = house.base()
    number = house.said(place)
    sign = first_sign(number, base)
    power = power_of(base, exponent_of(number, base))
    rest = number - sign * power
    ways = [0] * (base - 1)
    ways[sign - 1] = power - rest
    if sign < base - 1:
        ways[sign] = rest
    else:
        # Behind the last number of the beginning comes k times its first one; where k is 2 that is the same one.
        ways[0] += base * rest
    return sign, ways


def mark_paper(house, marks, place):
    """Of what is said at the place, it // k and so on: (number, its mark, the mark of the number one more)."""
    base = house.base()
    signs = signs_of(house.said(place), base)
    number = signs[0]
    mark = marks[number - 1]
    following = marks[number] if number < base - 1 else base * marks[0]
    paper = [(number, mark, following)]
    # From number to number of k * number on, the marks rise or fall by even steps.
    for sign in signs[1:]:
        number = number * base + sign
        step = following - mark
        mark = base * mark + sign * step
        following = mark + step
        paper.append((number, mark, following))
    return paper[::-1]


def shows_mark(house, marks, place, paper):
    """Whether it is, of anything, the paper of the mark at the place."""
    return is_same(paper, mark_paper(house, marks, place))
