"""How many houses of a reach keep all sayings, and which they are, in order.

The houses of a reach are the rows of sums that never fall, each sum between a
floor and a roof. How many end in some last part is told by those of all parts
behind it: all numbers may stand ahead of a part, less those that fall to it,
again more those that fall twice, and so on; and a row that falls at each step
is a choice of so many numbers between the last one's floor and the first one's
roof.
"""

from math import comb

from askback.bounds import bounds_of, clash_at, greatest_sums, least_sums
from askback.errors import Beyond
from askback.house import house_of_sums
from askback.sayings import refuse_no_sayings


def how_many(k, sayings, reach):
    """How many houses of this k and reach keep all sayings."""
    refuse_no_sayings(k, sayings)
    bounds = bounds_of(k, sayings)
    if clash_at(bounds, reach) is not None:
        return 0
    return rows_behind(least_sums(k, bounds, reach), greatest_sums(k, bounds, reach))[0]


def nth_house(k, sayings, reach, place):
    """The j-th of them, from 0 on, by their beginnings."""
    if place >= how_many(k, sayings, reach):
        raise Beyond(place)
    bounds = bounds_of(k, sayings)
    floors, roofs = least_sums(k, bounds, reach), greatest_sums(k, bounds, reach)
    sums = [0]
    left = place
    # Rows of sums are in the order of their beginnings, so each sum is found by how many rows those ahead have.
    for sign in range(1, k):
        floors = [max(sums[-1], floor) for floor in floors[1:]]
        roofs = roofs[1:]
        behind = rows_behind(floors, roofs)[1:]
        found = first_with_more(floors, behind, roofs[0], left)
        left -= rows_below(floors, behind, found - 1)
        sums.append(found)
    return house_of_sums(k, sums)


def rows_behind(floors, roofs):
    """How many rows there are of all these sums, of all but the first one, and so on; of none of them there is one."""
    rows = [1]
    for at in reversed(range(len(floors))):
        rows = [rows_below(floors[at:], rows, roofs[at]), *rows]
    return rows


def rows_below(floors, behind, roof):
    """How many rows there are whose first sum is at most the roof; behind is how many there are of later sums."""
    many = 0
    for falls, floor in enumerate(floors):
        rows = comb(max(0, roof - floor + 1), falls + 1) * behind[falls]
        many += rows if falls % 2 == 0 else -rows
    return many


def first_with_more(floors, behind, roof, many):
    """The least first sum, up to the roof, up to which there are more rows than so many.

    It is looked for where it is if rows rise by even steps: in a part that is
    the finer the better the guesses were, so few of the sums are looked at.
    """
    low, few = floors[0] - 1, 0
    high, more = roof, rows_below(floors, behind, roof)
    finer = 2
    while high - low > 1:
        width = max(1, (high - low) >> finer)
        guess = (high - low) * (many - few) // (more - few)
        start = low + guess // width * width
        for at in (start, start + width):
            if low < at < high:
                rows = rows_below(floors, behind, at)
                low, few, high, more = (low, few, at, rows) if rows > many else (at, rows, high, more)
        finer = 2 * finer if high - low <= width else max(2, finer // 2)
    return high
