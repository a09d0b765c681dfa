"""A desk: it is told rows and answers them, all in texts."""

from askback.apart import parts
from askback.asking import asked
from askback.errors import NoAsk, NoName
from askback.rows import row_in
from askback.texts import figures_of, tell_entry

DONE = "ok"
NONE = "none"
ALIKE = "alike"
ENDLESS = "on"


def answer_said(house, place):
    """What is said at the place."""
    return figures_of(house.said(place))


def answer_times(house, number):
    """How many times the number is said."""
    return figures_of(house.times(number))


def answer_last(house, number):
    """The last place where the number is said."""
    return figures_of(house.last_place(number))


def answer_parts(one, other):
    """The least place at which the houses don't say the same."""
    place = parts(one, other)
    return ALIKE if place is None else figures_of(place)


def answer_asks(house, place):
    """Whom the one at the place asks."""
    places = asked(house, place)
    if places is None:
        return NONE
    return " ".join([figures_of(one) if one >= 0 else "-" + figures_of(-one) for one in places])


def answer_reaches(lore, upto):
    """Which reaches the houses have that keep all."""
    return ends_told(lore.reaches(upto=upto))


def answer_may(lore, place, upto):
    """What may be said at the place."""
    if lore.reaches(upto=upto) is None:
        return NONE
    return ends_told(lore.may_be(place, upto=upto))


def answer_bar(lore, upto):
    """The tellers of a bar."""
    tellers = lore.barred_by(upto=upto)
    return NONE if tellers is None else " ".join(tellers)


def ends_told(ends):
    """The least and the greatest as words."""
    if ends is None:
        return NONE
    least, greatest = ends
    return figures_of(least) + " " + (ENDLESS if greatest is None else figures_of(greatest))


def drop_entry(lore, moment):
    """Drop the entry of the moment."""
    lore.drop(moment)
    return DONE


def add_entry(lore, moment, teller, what):
    """Tell the lore an entry."""
    tell_entry(lore, moment, teller, what)
    return DONE


OF_HOUSES = {
    "said": answer_said,
    "times": answer_times,
    "last": answer_last,
    "parts": answer_parts,
    "asks": answer_asks,
}

OF_THE_LORE = {
    "entry": add_entry,
    "drop": drop_entry,
    "reaches": answer_reaches,
    "may": answer_may,
    "bar": answer_bar,
}


class Desk:
    """Houses by their names and a lore, told and asked row by row."""

    def __init__(self):
        self._houses = {}
        self._lore = None

    def say(self, row):
        """The answer to the row."""
        read = row_in(row)
        if read is None:
            raise NoAsk(row)
        word, told = read
        if word == "house":
            name, house = told
            self._houses[name] = house
            return DONE
        if word == "lore":
            self._lore = told[0]
            return DONE
        if word in OF_HOUSES:
            answer = OF_HOUSES[word]
            held = [self._house(thing) if isinstance(thing, str) else thing for thing in told]
            return answer(*held)
        if self._lore is None:
            raise NoAsk(row)
        answer = OF_THE_LORE[word]
        return answer(self._lore, *told)

    def _house(self, name):
        """The house of this name."""
        if name not in self._houses:
            raise NoName(name)
        return self._houses[name]
