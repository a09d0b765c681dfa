"""Two houses: where they part, and which of them is ahead."""

from askback.errors import OtherK
from askback.house import house_of_sums, lessened_sums


def parts(one, other):
    """The least place at which the houses don't say the same; None where they do at all places."""
    # Behind the greater k, what only the lesser one divides is said more than once in its house alone.
    for number in range(1, one.base() + other.base() + 1):
        last, other_last = one.last_place(number), other.last_place(number)
        if last != other_last:
            return min(last, other_last) + 1
    return None


def less_at(one, other):
    """A place where the first house says less than the other one; None where it nowhere does."""
    refuse_other_k(one, other)
    # If no number of the beginning is said out later, none is: of all others last places hang on these.
    for number in range(1, one.base()):
        if one.last_place(number) > other.last_place(number):
            return other.last_place(number) + 1
    return None


def lesser(one, other):
    """The greatest house that nowhere says more than either."""
    return house_of_sums(one.base(), [max(pair) for pair in pairs_of_sums(one, other)])


def greater(one, other):
    """The least house that nowhere says less than either."""
    return house_of_sums(one.base(), [min(pair) for pair in pairs_of_sums(one, other)])


def pairs_of_sums(one, other):
    """The sums of both beginnings, each number less one, sign by sign."""
    refuse_other_k(one, other)
    return list(zip(lessened_sums(one.beginning()), lessened_sums(other.beginning())))


def refuse_other_k(one, other):
    """Refuse two houses that are not of one k."""
    if one.base() != other.base():
        raise OtherK(other.base())
