"""Houses, sayings and lores as texts, and read from them."""

from askback.errors import Unread
from askback.house import House, is_beginning, is_k
from askback.kinds import is_word
from askback.lore import Lore
from askback.sayings import is_saying, refuse_no_saying
from askback.signs import power_of

FIGURES = "0123456789"
MOST_FIGURES = 200
LEFT = "is left"
TRUSTED = "is trusted"

# Python itself refuses to write numbers of some thousand figures, so they are written part by part.
PART_FIGURES = 400


def show_house(house):
    """The house as a text."""
    beginning = " ".join([figures_of(many) for many in house.beginning()])
    return f"house {house.base()} by {beginning}"


def show_saying(saying):
    """The saying as a text."""
    refuse_no_saying(saying, 0)
    word, place, number = saying
    return f"{figures_of(place)} {word} {figures_of(number)}"


def show_lore(lore):
    """The lore as a text, a row for each entry."""
    rows = [f"lore {lore.base()}"]
    for moment, teller, what in lore.entries():
        rows.append(f"{figures_of(moment)} {teller} {show_told(what)}")
    return "\n".join(rows)


def show_told(what):
    """What an entry tells of its teller, as words."""
    if what is True:
        return TRUSTED
    if what is False:
        return LEFT
    return "sees " + show_saying(what)


def figures_of(number):
    """The number in figures, however many."""
    parts = []
    part = power_of(10, PART_FIGURES)
    while number >= part:
        number, rest = divmod(number, part)
        parts.append(str(rest).zfill(PART_FIGURES))
    parts.append(str(number))
    return "".join(parts[::-1])


def read_house(text):
    """The house that the text writes."""
    house = house_in(text)
    if house is None:
        raise Unread(text)
    return house


def read_saying(text):
    """The saying that the text writes."""
    saying = saying_in(text)
    if saying is None:
        raise Unread(text)
    return saying


def read_lore(text):
    """The lore that the text writes."""
    if not isinstance(text, str):
        raise Unread(text)
    first, *rows = text.split("\n")
    lore = lore_in(first)
    if lore is None:
        raise Unread(first)
    entries = [entry_in(row) for row in rows]
    if None in entries:
        raise Unread(rows[entries.index(None)])
    for moment, teller, what in entries:
        tell_entry(lore, moment, teller, what)
    return lore


def tell_entry(lore, moment, teller, what):
    """Tell the lore an entry: of a saying, or False of a teller that is left, True of one that is trusted."""
    if what is True:
        lore.trusts(moment, teller)
    elif what is False:
        lore.leaves(moment, teller)
    else:
        lore.sees(moment, teller, what)


def house_in(text):
    """The house that the text writes; None of anything else."""
    if not isinstance(text, str):
        return None
    name, *words = text.split(" ")
    if name != "house" or len(words) < 3 or words[1] != "by":
        return None
    k = number_in(words[0])
    beginning = [number_in(word) for word in words[2:]]
    if not is_k(k) or not is_beginning(k, beginning):
        return None
    return House(k, beginning)


def saying_in(text):
    """The saying that the text writes; None of anything else."""
    if not isinstance(text, str):
        return None
    words = text.split(" ")
    if len(words) != 4:
        return None
    saying = (f"{words[1]} {words[2]}", number_in(words[0]), number_in(words[3]))
    return saying if is_saying(saying) else None


def lore_in(row):
    """The lore without entries that the first row of one writes; None of any other row."""
    words = row.split(" ")
    if len(words) != 2 or words[0] != "lore":
        return None
    k = number_in(words[1])
    return Lore(k) if is_k(k) else None


def entry_in(row):
    """The entry that the row writes, as (moment, teller, saying, False or True); None of any other row."""
    words = row.split(" ", 2)
    if len(words) != 3:
        return None
    moment = number_in(words[0])
    what = told_in(words[2])
    if moment is None or what is None or not is_word(words[1]):
        return None
    return moment, words[1], what


def told_in(text):
    """What the words behind a teller tell of it: a saying, False or True; None of any other words."""
    if text == LEFT:
        return False
    if text == TRUSTED:
        return True
    if not text.startswith("sees "):
        return None
    return saying_in(text.removeprefix("sees "))


def number_in(word):
    """The number that the word writes, of at most two hundred figures without a nought ahead; None of any other."""
    if not 1 <= len(word) <= MOST_FIGURES or not all([sign in FIGURES for sign in word]):
        return None
    if word[0] == "0" and len(word) > 1:
        return None
    return int(word)
