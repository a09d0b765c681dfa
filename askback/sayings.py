"""Sayings: what they look like, and what is refused where they are handed in."""

from askback.errors import BadHouse, BadSaying
from askback.house import is_k
from askback.kinds import is_row, is_whole_from

AT_MOST = "at most"
AT_LEAST = "at least"


def is_saying(thing):
    """Whether it is a saying: a tuple of words, a place and a number."""
    if not isinstance(thing, tuple) or len(thing) != 3 or thing[0] not in (AT_MOST, AT_LEAST):
        return False
    return is_whole_from(thing[1], 1) and is_whole_from(thing[2], 1)


def contrary_of(saying):
    """What is kept just by the houses that don't keep the saying; None of one that all keep."""
    word, place, number = saying
    if word == AT_MOST:
        return AT_LEAST, place, number + 1
    if number == 1:
        return None
    return AT_MOST, place, number - 1


def refuse_no_k(k):
    """Refuse what is no k."""
    if not is_k(k):
        raise BadHouse("k")


def refuse_no_saying(thing, place):
    """Refuse what is no saying, naming this place."""
    if not is_saying(thing):
        raise BadSaying(place)


def refuse_no_sayings(k, sayings):
    """Refuse what is no k, then what is no list of sayings."""
    refuse_no_k(k)
    refuse_no_list(sayings)


def refuse_no_list(sayings):
    """Refuse what is no list of sayings."""
    if not is_row(sayings):
        raise BadSaying(0)
    for place, saying in enumerate(sayings):
        refuse_no_saying(saying, place)
