"""Sayings as bounds on the beginning of a house.

The last place of a number is the number, its heap, its exponent times the
reach, and the sum of the beginning's numbers, each less one, up to its first
sign. So each saying is a bound on one such sum: a floor that it stands on or a
roof that it stands below, both falling with the reach as steeply as the
exponent is great. The sums rise with their signs, from nought to the reach. So
a house of a reach keeps all sayings just where no floor is above a roof of the
same or a greater sign there. How far a floor is above a roof is a straight line
over the reaches, so which reaches are let be is one stretch.
"""

from askback.sayings import AT_MOST
from askback.signs import exponent_of, first_sign, heap_of

# A bound is (sign, is it a roof, exponent, worth, at): the sum and exponent times the reach is at least,
# at most, the worth; at is the place of its saying in the list, None where every house keeps it.


def bound_of(k, saying, at):
    """The bound of the saying that is at this place in a list."""
    word, place, number = saying
    if word == AT_MOST:
        return bound_on(k, number, False, place, at)
    return bound_on(k, number - 1, True, place - 1, at)


def bound_on(k, number, is_roof, place, at):
    """That the last place of the number is at least, or as a roof at most, this place."""
    worth = place - number - heap_of(number, k)
    return first_sign(number, k), is_roof, exponent_of(number, k), worth, at


def in_order(bounds):
    """The bounds by their signs, at each sign the floors ahead of the roofs."""
    return sorted(bounds, key=lambda bound: (bound[0], bound[1]))


def with_every(k, bounds):
    """These bounds and those that every house keeps, in order."""
    ends = [(0, False, 0, 0, None), (k - 1, False, -1, 0, None), (k - 1, True, -1, 0, None)]
    return in_order([*ends, *bounds])


def bounds_of(k, sayings):
    """The bounds of all sayings and those that every house keeps, in order."""
    return with_every(k, [bound_of(k, saying, at) for at, saying in enumerate(sayings)])


def level(bound, reach):
    """How great the bound lets the sum be at this reach."""
    return bound[3] - bound[2] * reach


def clash_at(bounds, reach):
    """The floor and the roof, the floor most above, that this reach doesn't let be together; None where all may be."""
    clash = None
    widest = 0
    floor = bounds[0]
    height = level(floor, reach)
    for bound in bounds:
        stands = level(bound, reach)
        if not bound[1] and stands > height:
            floor = bound
            height = stands
        elif bound[1] and height - stands > widest:
            clash = (floor, bound)
            widest = height - stands
    return clash


def steepness(clash):
    """By how much the floor rises against the roof with each reach."""
    floor, roof = clash
    return roof[2] - floor[2]


def edge_of(clash):
    """The nearest reach that lets be the floor and the roof of the clash, which are not even."""
    floor, roof = clash
    steep = steepness(clash)
    room = roof[3] - floor[3]
    if steep > 0:
        return room // steep
    return -(room // -steep)


def climb(bounds, reach):
    """From this reach up: the least reach that isn't barred by one clash together with all lesser ones.

    Told are that reach, the clash that bars all lesser ones (None where it is
    the one begun with), and the clash that bars it and all greater ones, None
    where the reach is let be. Going to the edge of the widest clash, again and
    again, gets there soon, however far it is.
    """
    low = None
    clash = clash_at(bounds, reach)
    while clash is not None and steepness(clash) < 0:
        low = clash
        reach = edge_of(clash)
        clash = clash_at(bounds, reach)
    return reach, low, clash


def descend(bounds):
    """The greatest reach that is let be, and the clash that bars all greater ones; None twice where there is no end.

    This is asked only where some reach is let be.
    """
    # No edge of any clash is so far off.
    reach = 2 * max([abs(bound[3]) for bound in bounds]) + 1
    clash = clash_at(bounds, reach)
    if clash is None:
        return None, None
    high = None
    while clash is not None:
        high = clash
        reach = edge_of(clash)
        clash = clash_at(bounds, reach)
    return reach, high


def is_some_reach(bounds, reach):
    """Whether some reach from this one on is let be."""
    return climb(bounds, reach)[2] is None


def is_some_house(k, bounds):
    """Whether some house of this k keeps these bounds."""
    return is_some_reach(with_every(k, bounds), 0)


def span_of(bounds):
    """The least and the greatest reach that are let be, the greatest None without end; None where none is."""
    least, _, barred = climb(bounds, 0)
    if barred is not None:
        return None
    greatest, _ = descend(bounds)
    return least, greatest


def places_of(clashes):
    """The places in the list, rising, of the sayings whose bounds these clashes are of."""
    bounds = [bound for clash in clashes if clash is not None for bound in clash]
    return sorted({bound[4] for bound in bounds if bound[4] is not None})


def least_sums(k, bounds, reach):
    """Where this reach is let be: the least sums, of the first 0, 1, 2 .. of the beginning's numbers."""
    floors = [bound for bound in bounds if not bound[1]]
    return [max([level(floor, reach) for floor in floors if floor[0] <= sign]) for sign in range(k)]


def greatest_sums(k, bounds, reach):
    """Where this reach is let be: the greatest sums, of the first 0, 1, 2 .. of the beginning's numbers."""
    roofs = [bound for bound in bounds if bound[1]]
    return [0] + [min([level(roof, reach) for roof in roofs if roof[0] >= sign]) for sign in range(1, k)]
