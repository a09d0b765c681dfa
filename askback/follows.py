"""What follows of sayings: what each house keeps that keeps them, and what it may say."""

from askback.bars import bar_of, shows_bar
from askback.bounds import bound_of, bounds_of, clash_at, greatest_sums, in_order, is_some_reach, least_sums, span_of
from askback.errors import NoHouse
from askback.house import House, house_of_sums
from askback.kinds import is_same
from askback.sayings import AT_LEAST, AT_MOST, contrary_of, refuse_no_saying, refuse_no_sayings
from askback.sightings import keeps, least_house, reaches


def follows(k, sayings, saying):
    """A tuple: ("follows", bar), or ("open", house) of a house that keeps all sayings but not this one."""
    refuse_no_sayings_and_saying(k, sayings, saying)
    if reaches(k, sayings) is None:
        raise NoHouse("no house keeps all sayings")
    contrary = contrary_of(saying)
    if contrary is None:
        return "follows", []
    behind = [*sayings, contrary]
    span = reaches(k, behind)
    if span is None:
        return "follows", bar_of(k, behind)
    return "open", least_house(k, behind, span[0])


def shows_follows(k, sayings, saying, paper):
    """Whether it is, of anything, a tuple that may be told of whether the saying follows."""
    refuse_no_sayings_and_saying(k, sayings, saying)
    if not isinstance(paper, tuple) or len(paper) != 2:
        return False
    word, thing = paper
    if word == "follows":
        return shows_following(k, sayings, saying, thing)
    return word == "open" and shows_left_open(k, sayings, saying, thing)


def refuse_no_sayings_and_saying(k, sayings, saying):
    """Refuse what is no k, what is no list of sayings, then what is no saying."""
    refuse_no_sayings(k, sayings)
    refuse_no_saying(saying, len(sayings))


def shows_following(k, sayings, saying, thing):
    """Whether it is a bar of the list with the contrary behind it."""
    contrary = contrary_of(saying)
    if contrary is None:
        return is_same(thing, []) or shows_bar(k, sayings, thing)
    return shows_bar(k, [*sayings, contrary], thing)


def shows_left_open(k, sayings, saying, thing):
    """Whether it is a house of this k that keeps all sayings but not this one."""
    if not isinstance(thing, House) or thing.base() != k or keeps(thing, saying):
        return False
    return all([keeps(thing, kept) for kept in sayings])


def may_be(k, sayings, place, *, reach=None):
    """The least and the greatest that is said at the place in houses that keep all, of a reach where one is told."""
    refuse_no_sayings(k, sayings)
    return said_between(k, sayings, place, reach)


def said_between(k, sayings, place, reach):
    """The least and the greatest that may be said at the place, of this reach, or of all where it is None."""
    bounds = bounds_of(k, sayings)
    if reach is not None:
        return said_of_reach(k, bounds, place, reach)
    span = span_of(bounds)
    if span is None:
        raise NoHouse("no house keeps all sayings")
    least, greatest = said_of_reach(k, bounds, place, span[0])
    return least_said(k, bounds, place, span[0], least), greatest_said(k, bounds, place, span[0], greatest)


def said_of_reach(k, bounds, place, reach):
    """The least and the greatest that may be said at the place in houses of this reach."""
    if clash_at(bounds, reach) is not None:
        raise NoHouse("no house of this reach keeps all sayings")
    least = house_of_sums(k, greatest_sums(k, bounds, reach))
    greatest = house_of_sums(k, least_sums(k, bounds, reach))
    return least.said(place), greatest.said(place)


def least_said(k, bounds, place, reach, most):
    """The least number that may be said at the place; most may be, and no reach below this one is let be."""
    least = 1
    while least < most:
        middle = (least + most) // 2
        if lets_saying(k, bounds, (AT_MOST, place, middle), reach):
            most = middle
        else:
            least = middle + 1
    return least


def greatest_said(k, bounds, place, reach, least):
    """The greatest number that may be said at the place; least may be, and no reach below this one is let be."""
    # Nowhere more is said than the place itself is.
    most = place
    while least < most:
        middle = (least + most + 1) // 2
        if lets_saying(k, bounds, (AT_LEAST, place, middle), reach):
            least = middle
        else:
            most = middle - 1
    return least


def lets_saying(k, bounds, saying, reach):
    """Whether some house of a reach from this one on keeps the bounds and the saying."""
    return is_some_reach(in_order([*bounds, bound_of(k, saying, None)]), reach)
