"""Bars: a few sayings that no house keeps together."""

from askback.bounds import bounds_of, clash_at, climb, descend, places_of
from askback.errors import NoHouse
from askback.kinds import is_row, is_whole
from askback.sayings import refuse_no_sayings


def bar_of(k, sayings, *, reach=None):
    """Places of sayings that no house keeps together, of this reach where one is told; None where some keeps all."""
    refuse_no_sayings(k, sayings)
    bounds = bounds_of(k, sayings)
    if reach is not None:
        clash = clash_at(bounds, reach)
        return None if clash is None else places_of([clash])
    _, low, high = climb(bounds, 0)
    # One clash bars the lesser reaches, the other one all from there on.
    return None if high is None else places_of([low, high])


def shows_bar(k, sayings, thing, *, reach=None):
    """Whether it is, of anything, a bar of the list, of this reach where one is told."""
    refuse_no_sayings(k, sayings)
    if not are_places(thing, len(sayings)) or len(thing) > most_in_bar(reach):
        return False
    return bar_of(k, [sayings[place] for place in thing], reach=reach) is not None


def most_in_bar(reach):
    """How many places a bar has at most, by the reach that is told or None."""
    return 4 if reach is None else 2


def are_places(thing, many):
    """Whether it is a list of places in a list of so many, rising, each once."""
    if not is_row(thing):
        return False
    ahead = -1
    for place in thing:
        if not is_whole(place) or not ahead < place < many:
            return False
        ahead = place
    return True


def why_least(k, sayings):
    """Places of at most two sayings that no house of a reach less than the least keeps together."""
    low, _ = clashes_past_the_ends(k, sayings)
    return places_of([low])


def why_greatest(k, sayings):
    """Places of at most two sayings that no house of a reach more than the greatest keeps together."""
    _, high = clashes_past_the_ends(k, sayings)
    return places_of([high])


def clashes_past_the_ends(k, sayings):
    """The clash that bars all reaches less than the least, and the one that bars all more than the greatest.

    Each is None where there are no such reaches.
    """
    refuse_no_sayings(k, sayings)
    bounds = bounds_of(k, sayings)
    _, low, barred = climb(bounds, 0)
    if barred is not None:
        raise NoHouse("no house keeps all sayings")
    _, high = descend(bounds)
    return low, high
