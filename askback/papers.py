"""Papers of places: what is said all along a chain, so that it can be looked at without going."""

from askback.asking import told_chain
from askback.kinds import is_same


def paper_of(house, place):
    """(place, number, first) along the chain of the place: what is said there, and whether there first."""
    return told_chain(house, place)


def shows_paper(house, place, paper):
    """Whether it is, of anything, the paper of the place in the house."""
    return is_same(paper, paper_of(house, place))
