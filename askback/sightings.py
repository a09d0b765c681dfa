"""Sightings: which houses keep all that was said of numbers seen at places."""

from askback.bounds import bounds_of, clash_at, greatest_sums, least_sums, span_of
from askback.house import house_of_sums
from askback.sayings import AT_MOST, refuse_no_saying, refuse_no_sayings


def keeps(house, saying):
    """Whether the house keeps the saying."""
    refuse_no_saying(saying, 0)
    word, place, number = saying
    if word == AT_MOST:
        return house.said(place) <= number
    return house.said(place) >= number


def reaches(k, sayings):
    """The least and the greatest reach of the houses that keep all, the greatest None without end; None without any."""
    refuse_no_sayings(k, sayings)
    return span_of(bounds_of(k, sayings))


def least_house(k, sayings, reach):
    """The house of this k and reach that keeps all and says nowhere more than any other such one; None without any."""
    refuse_no_sayings(k, sayings)
    bounds = bounds_of(k, sayings)
    if clash_at(bounds, reach) is not None:
        return None
    # The longer the first numbers are said, the less is said.
    return house_of_sums(k, greatest_sums(k, bounds, reach))


def greatest_house(k, sayings, reach):
    """The house of this k and reach that keeps all and says nowhere less than any other such one; None without any."""
    refuse_no_sayings(k, sayings)
    bounds = bounds_of(k, sayings)
    if clash_at(bounds, reach) is not None:
        return None
    return house_of_sums(k, least_sums(k, bounds, reach))
