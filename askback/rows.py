"""The rows that a desk is told, read word by word."""

from askback.kinds import is_word
from askback.texts import entry_in, house_in, lore_in, number_in

# What stands behind the first word of each row that is told by names and numbers alone.
KINDS = {
    "drop": ("moment",),
    "said": ("name", "number"),
    "times": ("name", "number"),
    "last": ("name", "number"),
    "parts": ("name", "name"),
    "asks": ("name", "number"),
    "reaches": (),
    "may": ("number",),
    "bar": (),
}

# The asks of the lore, which may tell at their end up to which moment they are asked.
UP_TO_A_MOMENT = ("reaches", "may", "bar")


def row_in(row):
    """What the row tells, as (word, a list of all else): its first word, of a lore's entry `entry`; None of no row."""
    if not isinstance(row, str):
        return None
    words = row.split(" ")
    if words[0] == "house":
        return named_house_in(words)
    if words[0] == "lore":
        lore = lore_in(row)
        return None if lore is None else ("lore", [lore])
    if words[0] in UP_TO_A_MOMENT:
        return ask_of_lore_in(words)
    if words[0] in KINDS:
        told = told_by(words)
        return None if told is None else (words[0], told)
    entry = entry_in(row)
    return None if entry is None else ("entry", list(entry))


def named_house_in(words):
    """A name and a house; None where the words tell none."""
    house = house_in(" ".join(["house", *words[2:]]))
    if house is None or not is_word(words[1]):
        return None
    return "house", [words[1], house]


def ask_of_lore_in(words):
    """An ask of the lore, the moment up to which it is asked, or None, told last; None where the words tell none."""
    upto = None
    if words[-2:-1] == ["at"]:
        upto = number_in(words[-1])
        if upto is None:
            return None
        words = words[:-2]
    told = told_by(words)
    return None if told is None else (words[0], [*told, upto])


def told_by(words):
    """What the words behind the first one tell; None where they aren't as many, or not of the kinds, as told."""
    kinds = KINDS[words[0]]
    if len(words) != 1 + len(kinds):
        return None
    told = [told_by_word(kind, word) for kind, word in zip(kinds, words[1:])]
    return None if None in told else told


def told_by_word(kind, word):
    """The name or the number that the word tells; None where it tells none of this kind."""
    if kind == "name":
        return word if is_word(word) else None
    number = number_in(word)
    return None if kind == "number" and number == 0 else number
