"""The refusals, each with what it is about.

No message shows what was handed in: a number may have more figures than Python
is willing to write. What may be anything is kept as a copy.
"""

from askback.kinds import copy_of


class BadHouse(ValueError):
    """What makes no house: part is `k` or `beginning`."""

    def __init__(self, part):
        ValueError.__init__(self, "this makes no house")
        self.part = part


class BadMoment(ValueError):
    """What is no moment."""

    def __init__(self, moment):
        ValueError.__init__(self, "this is no moment")
        self.moment = copy_of(moment)


class BadSaying(ValueError):
    """What is no saying, or no list of them: place is where in the list."""

    def __init__(self, place):
        ValueError.__init__(self, "this is no saying")
        self.place = place


class BadTeller(ValueError):
    """What is no teller."""

    def __init__(self, teller):
        ValueError.__init__(self, "this is no teller")
        self.teller = copy_of(teller)


class NoAsk(ValueError):
    """What is nothing that a desk can be told: row is what was handed in."""

    def __init__(self, row):
        ValueError.__init__(self, "this is no ask")
        self.row = copy_of(row)


class Unread(ValueError):
    """What can't be read: row is the first such one, or what was handed in."""

    def __init__(self, row):
        ValueError.__init__(self, "this can't be read")
        self.row = copy_of(row)


class NoEntry(KeyError):
    """No entry is of this moment."""

    def __init__(self, moment):
        KeyError.__init__(self, "no entry is of this moment")
        self.moment = copy_of(moment)


class NoName(KeyError):
    """No house has this name."""

    def __init__(self, name):
        KeyError.__init__(self, "no house has this name")
        self.name = name


class SameMoment(LookupError):
    """An entry of this moment is there already."""

    def __init__(self, moment):
        LookupError.__init__(self, "an entry of this moment is there")
        self.moment = moment


class BadMark(IndexError):
    """What is no told mark, or no list of them: number is where in the list."""

    def __init__(self, number):
        IndexError.__init__(self, "this is no told mark")
        self.number = number


class Beyond(IndexError):
    """There are not so many: place is the one asked for."""

    def __init__(self, place):
        IndexError.__init__(self, "there are not so many")
        self.place = place


class NoBar(RuntimeError):
    """Some house keeps all sayings, so nothing bars them."""


class NoHouse(RuntimeError):
    """No house keeps all sayings."""


class OtherK(RuntimeError):
    """Two houses are not of one k: k is the other one's."""

    def __init__(self, k):
        RuntimeError.__init__(self, "the houses are not of one k")
        self.k = k
