"""What the tests measure the program against: the rules of DOC.md gone one by one."""

import random

from askback.errors import BadHouse, BadSaying
from askback.house import House

FAR = 10 ** 200 - 1

SMALL = [
    (2, [1]), (2, [2]), (2, [5]), (2, [40]),
    (3, [1, 1]), (3, [3, 1]), (3, [1, 4]), (3, [2, 7]), (3, [30, 2]),
    (4, [1, 1, 1]), (4, [2, 1, 3]), (4, [1, 9, 1]),
    (5, [1, 1, 1, 1]), (5, [4, 1, 1, 2]),
    (7, [2, 2, 2, 2, 2, 2]), (10, [1] * 9), (10, [1, 2, 3, 4, 5, 4, 3, 2, 1]),
    (30, [1] * 29), (30, [2] + [1] * 27 + [5]),
]

GREAT = [
    (2, [1]), (2, [3]), (2, [FAR]), (3, [1, 1]), (3, [2, 10 ** 50]), (3, [10 ** 199, 1]),
    (10, [1] * 9), (10, [1, 2, 3, 4, 5, 4, 3, 2, 10 ** 90]),
    (30, [1] * 29), (30, [10 ** 120 + number for number in range(29)]), (30, [FAR] * 29),
]

# Nothing of these is a whole number.
NO_NUMBERS = [None, True, False, "", "1", "2", "k", [], [2], (), (2,), {}, {2: 2}, 2.0]

# Nothing of these is a k that a house may have.
NO_KS = NO_NUMBERS[:4] + ["2", [2], (2,), {}, {2: 2}, 1, 0, -1, -2, 31, 10 ** 200]

# Nothing of these is a saying.
NO_SAYINGS = [
    None, True, False, 0, 1, "", "at most", "1 at most 1", [], (), {}, {0: "at most"},
    ("at most",), ("at most", 1), ("at most", 1, 1, 1), ("at least", 1, 1, None), (1, 1), (1, 1, 1),
    ["at most", 1, 1], ["at least", 2, 3], (("at most", 1, 1),), [("at most", 1, 1)],
    ("at Most", 1, 1), ("atmost", 1, 1), ("at most ", 1, 1), ("at", 1, 1), ("most", 1, 1), ("", 1, 1),
    (None, 1, 1), (True, 1, 1), (["at most"], 1, 1), ({}, 1, 1), (("at most",), 1, 1),
    ("at most", 0, 1), ("at most", 1, 0), ("at least", -1, 1), ("at least", 1, -10 ** 50),
    ("at most", True, 1), ("at most", 1, True), ("at least", False, 1), ("at least", 1, False),
    ("at most", None, 1), ("at most", 1, None), ("at least", "1", 1), ("at least", 1, "1"),
    ("at most", [1], 1), ("at most", 1, [1]), ("at least", (1,), 1), ("at least", 1, {1: 1}),
    (1, 1, "at most"), (1, "at most", 1),
]

# Nothing of these is a list, nor a tuple in its place.
NO_LISTS = [None, True, False, 0, 1, 7, "", "at most", {}, {0: ("at most", 1, 1)}, {("at most", 1, 1): 0}]


def said_by_rule(k, beginning, upto):
    """What is said at places 1 to upto (at 0 of the list stands None): all come and ask."""
    said = [None]
    for number, many in enumerate(beginning, start=1):
        said.extend([number] * many)
    reach = sum(beginning) - len(beginning)

    def at(place):
        return said[place] if place >= 1 else 1

    while len(said) <= upto:
        n = len(said)
        said.append(sum(at(n - i - reach - at(n - i - 1)) for i in range(k)))
    return said[:upto + 1]


def small_houses():
    """Houses that can be gone one by one."""
    chance = random.Random(20)
    rows = list(SMALL)
    for _ in range(25):
        k = chance.choice([2, 3, 4, 6, 11])
        rows.append((k, [chance.choice([1, 1, 2, 3, 12]) for _ in range(k - 1)]))
    return [(House(k, beginning), k, beginning) for k, beginning in rows]


def great_houses():
    """Houses to look far in, some with beginnings that are far themselves."""
    return [House(k, beginning) for k, beginning in GREAT]


def far_numbers():
    """Numbers of up to two hundred figures, the edges of what is handed in among them."""
    chance = random.Random(21)
    numbers = [10 ** 20, 10 ** 77 + 1, 2 ** 600, 30 ** 100 - 1, 3 ** 400 * 2, FAR - 1, FAR]
    return numbers + [chance.randrange(1, 10 ** figures) for figures in (25, 60, 120, 200)]


def asks_by_rule(k, said):
    """Whom each place asks that is gone in this row of what is said; None of the beginning."""
    reach = reach_by_rule(k, said)
    folk = reach + k - 1
    asks = [None] * (folk + 1)
    for n in range(folk + 1, len(said)):
        ahead = [said[n - i - 1] if n - i > 1 else 1 for i in range(k)]
        asks.append([n - i - reach - ahead[i] for i in range(k)])
    return asks[:len(said)]


def reach_by_rule(k, said):
    """The reach of a house by a row of what is said that goes past its beginning."""
    return said.index(k) - k


def chains_by_rule(k, said):
    """The chain of each place that is gone in this row; at 0 stands None."""
    reach = reach_by_rule(k, said)
    chains = [None]
    for n in range(1, len(said)):
        behind = n > reach + k - 1
        chains.append([n] + (chains[n + 1 - reach - said[n]] if behind else []))
    return chains


def beginnings_of(k, reach):
    """All beginnings of this k and reach."""
    if k == 2:
        return [[reach + 1]]
    return [[many + 1] + rest for many in range(reach + 1) for rest in beginnings_of(k - 1, reach - many)]


def is_kept(saying, said):
    """Whether a row of what is said keeps the saying."""
    word, place, number = saying
    return said[place] <= number if word == "at most" else said[place] >= number


class AllHouses:
    """All houses of a k up to a reach, gone one by one up to a place.

    Up to that place those of greater reaches say nothing that those of a reach
    as great as the place don't.
    """

    def __init__(self, k, upto):
        self.k = k
        self.upto = upto
        self.by_reach = []
        for reach in range(upto + 2):
            self.by_reach.append([(b, said_by_rule(k, b, upto)) for b in beginnings_of(k, reach)])

    def keeping(self, sayings, reach):
        """(beginning, what is said) of all of this reach that keep all sayings."""
        return [row for row in self.by_reach[reach] if all(is_kept(saying, row[1]) for saying in sayings)]

    def reaches(self, sayings):
        """(least, greatest or None) or None, as the program has to tell it."""
        good = [reach for reach in range(self.upto + 2) if self.keeping(sayings, reach)]
        if not good:
            return None
        assert good == list(range(good[0], good[-1] + 1))
        return good[0], good[-1] if good[-1] <= self.upto else None

    def some_sayings(self, chance, most):
        """Up to so many sayings of places that are gone."""
        return [self.some_saying(chance) for _ in range(chance.randrange(most + 1))]

    def some_saying(self, chance):
        return (chance.choice(["at most", "at least"]), chance.randrange(1, self.upto + 1),
                chance.randrange(1, self.upto))


def far_sayings(house, chance, many, loose=1000):
    """Sayings of far places that the house keeps, the less loose the greater this is."""
    sayings = []
    for _ in range(many):
        place = chance.randrange(1, 10 ** chance.randrange(1, 200))
        number = house.said(place)
        room = chance.randrange(number // loose + 1)
        if chance.random() < 0.5:
            sayings.append(("at most", place, number + room))
        else:
            sayings.append(("at least", place, max(1, number - room)))
    return sayings


def refuses_no_k_then_no_sayings(test, call):
    """That a call of (k, sayings) refuses what is no k ahead of all else, then the first that is no saying."""
    good = ("at most", 3, 2)
    for k in NO_KS:
        for sayings in ([], [good], [None], None, "", 7):
            with test.assertRaises(BadHouse) as caught:
                call(k, sayings)
            test.assertEqual(caught.exception.part, "k")
    for sayings in NO_LISTS + [good, list(good)]:
        refuses_saying(test, 0, call, sayings)
    for wrong in NO_SAYINGS:
        refuses_saying(test, 0, call, [wrong])
        refuses_saying(test, 2, call, [good, good, wrong, good, wrong, None])
        refuses_saying(test, 1, call, (good, wrong))


def refuses_saying(test, place, call, sayings):
    with test.assertRaises(BadSaying) as caught:
        call(3, sayings)
    test.assertEqual(caught.exception.place, place)
    test.assertIs(type(caught.exception.place), int)


def is_as_told(thing):
    """Whether all through, numbers are plain ints, lists plain lists and tuples plain tuples."""
    if type(thing) in (list, tuple):
        return all(is_as_told(part) for part in thing)
    return type(thing) in (int, str, bool, type(None))
