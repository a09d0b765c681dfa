"""Few sayings instead of many: a core of a list, and pins of a house."""

from askback.bounds import bound_of, is_some_house
from askback.errors import NoHouse
from askback.sayings import AT_LEAST, AT_MOST, contrary_of, refuse_no_sayings


def core(k, sayings):
    """The places left where, from the last place on, each saying that follows of all others left is left out."""
    refuse_no_sayings(k, sayings)
    bounds = [bound_of(k, saying, None) for saying in sayings]
    if not is_some_house(k, bounds):
        raise NoHouse("no house keeps all sayings")
    left = list(range(len(sayings)))
    for place in reversed(range(len(sayings))):
        others = [other for other in left if other != place]
        if does_follow(k, [bounds[other] for other in others], sayings[place]):
            left = others
    return left


def does_follow(k, bounds, saying):
    """Whether each house of this k that keeps the bounds keeps the saying."""
    contrary = contrary_of(saying)
    return contrary is None or not is_some_house(k, [*bounds, bound_of(k, contrary, None)])


def pins(house):
    """Sayings that of its k this house alone keeps: where each number of the beginning is said last."""
    found = []
    for number in range(1, house.base()):
        last = house.last_place(number)
        found.append((AT_MOST, last, number))
        found.append((AT_LEAST, last + 1, number + 1))
    return found
