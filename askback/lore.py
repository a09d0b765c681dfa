"""A lore: what tellers sighted at moments, and which of it counts."""

from askback.bars import bar_of
from askback.bounds import bound_of, bounds_of, is_some_house, span_of
from askback.errors import BadMoment, BadTeller, NoEntry, SameMoment
from askback.follows import said_between
from askback.kinds import is_whole_from, is_word
from askback.sayings import refuse_no_k, refuse_no_saying
from askback.sightings import least_house


class Lore:
    """A k and entries, each of its moment: a teller sights a saying, is left, or is trusted again."""

    def __init__(self, k):
        refuse_no_k(k)
        self._k = k
        self._told = {}

    def __len__(self):
        return len(self._told)

    def base(self):
        """Its k."""
        return self._k

    def sees(self, moment, teller, saying):
        """At the moment the teller sights the saying."""
        refuse_no_moment(moment)
        refuse_no_teller(teller)
        refuse_no_saying(saying, 0)
        self._tell(moment, teller, saying)

    def leaves(self, moment, teller):
        """From the moment on the teller is left."""
        refuse_no_moment(moment)
        refuse_no_teller(teller)
        self._tell(moment, teller, False)

    def trusts(self, moment, teller):
        """From the moment on the teller is trusted again."""
        refuse_no_moment(moment)
        refuse_no_teller(teller)
        self._tell(moment, teller, True)

    def drop(self, moment):
        """Drop the entry of the moment."""
        if not is_moment(moment) or moment not in self._told:
            raise NoEntry(moment)
        del self._told[moment]

    def entries(self, *, upto=None):
        """(moment, teller, saying) rising; False or True for the saying where the teller is left or trusted."""
        if upto is not None:
            refuse_no_moment(upto)
        moments = [moment for moment in sorted(self._told) if upto is None or moment <= upto]
        return [(moment, *self._told[moment]) for moment in moments]

    def sayings(self, *, upto=None):
        """The sayings that count, by their moments."""
        return [saying for _, _, saying in counted(self.entries(upto=upto))]

    def reaches(self, *, upto=None):
        """The least and the greatest reach of the houses that keep all, the greatest None without end, or None."""
        return span_of(bounds_of(self._k, self.sayings(upto=upto)))

    def house(self, reach, *, upto=None):
        """The least house of this reach that keeps all; None where none does."""
        return least_house(self._k, self.sayings(upto=upto), reach)

    def may_be(self, place, *, upto=None):
        """The least and the greatest that is said at the place in houses that keep all."""
        return said_between(self._k, self.sayings(upto=upto), place, None)

    def barred_by(self, *, upto=None):
        """The tellers of a bar, rising; None where some house keeps all."""
        counting = counted(self.entries(upto=upto))
        bar = bar_of(self._k, [saying for _, _, saying in counting])
        if bar is None:
            return None
        return sorted({counting[place][1] for place in bar})

    def turns(self):
        """(moment, whether some house keeps all from then on), for each moment at which that turns."""
        entries = self.entries()
        bounds = self._bounds(entries)
        found = []
        is_some = True
        for many, entry in enumerate(entries, start=1):
            counting = counted(entries[:many])
            if is_some_house(self._k, [bounds[moment] for moment, _, _ in counting]) != is_some:
                is_some = not is_some
                found.append((entry[0], is_some))
        return found

    def freed_by(self, *, upto=None):
        """The tellers, rising, without each of whom some house keeps all; None where some keeps all that count."""
        counting = counted(self.entries(upto=upto))
        bounds = self._bounds(counting)
        if is_some_house(self._k, list(bounds.values())):
            return None
        freeing = []
        for left in sorted({teller for _, teller, _ in counting}):
            if is_some_house(self._k, [bounds[moment] for moment, teller, _ in counting if teller != left]):
                freeing.append(left)
        return freeing

    def _tell(self, moment, teller, what):
        """Keep an entry, where none of the moment is there."""
        if moment in self._told:
            raise SameMoment(moment)
        self._told[moment] = (teller, what)

    def _bounds(self, entries):
        """The bound of each saying, by its moment, so that it is found once however often it is looked at."""
        return {moment: bound_of(self._k, what, None) for moment, _, what in entries if is_sight(what)}


def counted(entries):
    """Of the entries those whose sayings count: of tellers whom no later one of these tells to be left."""
    trusted = {}
    for _, teller, what in entries:
        if not is_sight(what):
            trusted[teller] = what
    return [entry for entry in entries if is_sight(entry[2]) and trusted.get(entry[1], True)]


def is_sight(what):
    """Whether what an entry tells of its teller is a saying."""
    return isinstance(what, tuple)


def is_moment(thing):
    """Whether it is a moment."""
    return is_whole_from(thing, 0)


def refuse_no_moment(thing):
    """Refuse what is no moment."""
    if not is_moment(thing):
        raise BadMoment(thing)


def refuse_no_teller(thing):
    """Refuse what is no teller."""
    if not is_word(thing):
        raise BadTeller(thing)
