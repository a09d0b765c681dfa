"""Which k have a house that keeps all sayings, and which sayings are to blame where one has none."""

from askback.bars import bar_of
from askback.bounds import bounds_of, climb
from askback.errors import NoBar
from askback.house import GREATEST_K
from askback.sayings import refuse_no_list


def which(sayings, most):
    """(k, least reach) of each k up to the most that has a house that keeps all sayings."""
    refuse_no_list(sayings)
    found = []
    for k in range(2, min(most, GREATEST_K) + 1):
        least, _, barred = climb(bounds_of(k, sayings), 0)
        if barred is None:
            found.append((k, least))
    return found


def blame(k, sayings):
    """Places of sayings that no house keeps together, though without any one of them some house does."""
    bar = bar_of(k, sayings)
    if bar is None:
        raise NoBar("some house keeps all sayings")
    to_blame = bar
    for place in bar:
        others = [other for other in to_blame if other != place]
        if bar_of(k, [sayings[other] for other in others]) is not None:
            to_blame = others
    return to_blame
