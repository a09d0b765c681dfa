"""What the tests measure the program against: the rules of DOC.md gone one by one."""

import random

from askback.house import House

FAR = 10 ** 200 - 1

SMALL = [
    (2, [1]), (2, [2]), (2, [5]), (2, [40]),
    (3, [1, 1]), (3, [3, 1]), (3, [1, 4]), (3, [2, 7]), (3, [30, 2]),
    (4, [1, 1, 1]), (4, [2, 1, 3]), (4, [1, 9, 1]),
    (5, [1, 1, 1, 1]), (5, [4, 1, 1, 2]),
    (7, [2, 2, 2, 2, 2, 2]), (10, [1] * 9), (10, [1, 2, 3, 4, 5, 4, 3, 2, 1]),
    (30, [1] * 29), (30, [2] + [1] * 27 + [5]),
]

GREAT = [
    (2, [1]), (2, [3]), (2, [FAR]), (3, [1, 1]), (3, [2, 10 ** 50]), (3, [10 ** 199, 1]),
    (10, [1] * 9), (10, [1, 2, 3, 4, 5, 4, 3, 2, 10 ** 90]),
    (30, [1] * 29), (30, [10 ** 120 + number for number in range(29)]), (30, [FAR] * 29),
]

# Nothing of these is a whole number.
NO_NUMBERS = [None, True, False, "", "1", "2", "k", [], [2], (), (2,), {}, {2: 2}, 2.0]


def said_by_rule(k, beginning, upto):
    """What is said at places 1 to upto (at 0 of the list stands None): all come and ask."""
    said = [None]
    for number, many in enumerate(beginning, start=1):
        said.extend([number] * many)
    reach = sum(beginning) - len(beginning)

    def at(place):
        return said[place] if place >= 1 else 1

    while len(said) <= upto:
        n = len(said)
        said.append(sum(at(n - i - reach - at(n - i - 1)) for i in range(k)))
    return said[:upto + 1]


def small_houses():
    """Houses that can be gone one by one."""
    chance = random.Random(20)
    rows = list(SMALL)
    for _ in range(25):
        k = chance.choice([2, 3, 4, 6, 11])
        rows.append((k, [chance.choice([1, 1, 2, 3, 12]) for _ in range(k - 1)]))
    return [(House(k, beginning), k, beginning) for k, beginning in rows]


def great_houses():
    """Houses to look far in, some with beginnings that are far themselves."""
    return [House(k, beginning) for k, beginning in GREAT]


def far_numbers():
    """Numbers of up to two hundred figures, the edges of what is handed in among them."""
    chance = random.Random(21)
    numbers = [10 ** 20, 10 ** 77 + 1, 2 ** 600, 30 ** 100 - 1, 3 ** 400 * 2, FAR - 1, FAR]
    return numbers + [chance.randrange(1, 10 ** figures) for figures in (25, 60, 120, 200)]
