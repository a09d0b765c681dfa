"""Mending: what is left out at the least price, so that some house of a reach keeps all others.

At a reach each saying is a floor or a roof, and a floor and a roof clash where
the floor's sign is no greater than the roof's and its level is. One of each two
that clash has to be left out. If amounts go through clashes, through none more
than its floor and its roof have room for by their prices, all amounts together
are no more than the price of what is left out; and where the most goes through
that can, something can be left out at just that price.
"""

from heapq import heappop, heappush

from askback.bars import are_places, bar_of, most_in_bar
from askback.bounds import bounds_of, edge_of, level, places_of, steepness
from askback.kinds import is_row, is_whole_from
from askback.sayings import refuse_no_sayings


def mend(k, sayings, reach, *, prices=None):
    """A tuple: the places left out, and (bar, amount)s that show that no others have a lesser price."""
    refuse_no_sayings(k, sayings)
    bounds = bounds_of(k, sayings)
    room = room_of(bounds, prices_of(sayings, prices))
    through = amounts_through(bounds, room, reach, reach)
    return left_out(bounds, room, through, reach), clashes_of(bounds, through)


def shows_mend(k, sayings, reach, thing, *, prices=None):
    """Whether it is, of anything, a tuple that may be told of what is left out."""
    refuse_no_sayings(k, sayings)
    if not isinstance(thing, tuple) or len(thing) != 2:
        return False
    left, clashes = thing
    if not are_places(left, len(sayings)) or not is_row(clashes):
        return False
    if not all([is_clash(k, sayings, reach, clash) for clash in clashes]):
        return False
    kept = [saying for place, saying in enumerate(sayings) if place not in left]
    costs = prices_of(sayings, prices)
    return bar_of(k, kept, reach=reach) is None and are_paid(left, clashes, costs)


def least_mend(k, sayings, *, prices=None):
    """The least price over all reaches, with the least reach that has it: (reach, price)."""
    refuse_no_sayings(k, sayings)
    bounds = bounds_of(k, sayings)
    room = room_of(bounds, prices_of(sayings, prices))
    turns = turns_of(bounds)
    first, last = 0, len(turns) - 1
    # Stretches are halved, always the one that may yet be the cheapest: most others are never looked into.
    queue = []
    while first < last:
        middle = (first + last) // 2
        for start, end in ((first, middle), (middle + 1, last)):
            heappush(queue, (price_between(bounds, room, turns[start], turns[end]), start, end))
        _, first, last = heappop(queue)
    return turns[first], price_between(bounds, room, turns[first], turns[first])


def prices_of(sayings, prices):
    """The prices told, or 1 for each saying."""
    return [1] * len(sayings) if prices is None else prices


def room_of(bounds, prices):
    """How much may go through each bound: its saying's price; more than all prices where every house keeps it."""
    endless = sum(prices) + 1
    return [endless if bound[4] is None else prices[bound[4]] for bound in bounds]


def amounts_through(bounds, room, low, high):
    """Amounts by (floor, roof), places of bounds that clash at both reaches and so at all between them.

    Where the reaches are one, no more can go through all together.
    """
    low_levels = [level(bound, low) for bound in bounds]
    high_levels = [level(bound, high) for bound in bounds]
    # The lower a floor is, the fewer of the roofs still to come it clashes with.
    floors = sorted([at for at, bound in enumerate(bounds) if not bound[1]], key=lambda at: low_levels[at])
    left = list(room)
    through = {}
    for roof in [at for at, bound in enumerate(bounds) if bound[1]]:
        for floor in floors:
            # Bounds are in order, so a roof's sign is at least that of each floor ahead.
            if floor < roof and low_levels[floor] > low_levels[roof] and high_levels[floor] > high_levels[roof]:
                amount = min(left[floor], left[roof])
                if amount > 0:
                    through[(floor, roof)] = amount
                    left[floor] -= amount
                    left[roof] -= amount
    return through


def price_between(bounds, room, low, high):
    """What has to be paid at least at each reach from the low to the high one; all of it where they are one."""
    return sum(amounts_through(bounds, room, low, high).values())


def left_out(bounds, room, through, reach):
    """The places left out, where no more can go through: each clash has a floor or a roof that is left out.

    These are the roofs to which more could go, and the floors from which no more
    could, be it by what goes to another roof instead.
    """
    levels = [level(bound, reach) for bound in bounds]
    left = list(room)
    for (floor, _), amount in through.items():
        left[floor] -= amount
    is_more = [not bound[1] and left[at] > 0 for at, bound in enumerate(bounds)]
    to_look_at = [at for at, more in enumerate(is_more) if more]
    while to_look_at:
        floor = to_look_at.pop()
        for roof, bound in enumerate(bounds):
            if bound[1] and floor < roof and levels[floor] > levels[roof] and not is_more[roof]:
                is_more[roof] = True
                for other, taking in through:
                    if taking == roof and not is_more[other]:
                        is_more[other] = True
                        to_look_at.append(other)
    return sorted([bound[4] for at, bound in enumerate(bounds) if bound[1] == is_more[at]])


def clashes_of(bounds, through):
    """(bar, amount) of all that goes through, each bar once."""
    amounts = {}
    for (floor, roof), amount in through.items():
        bar = tuple(places_of([(bounds[floor], bounds[roof])]))
        amounts[bar] = amounts.get(bar, 0) + amount
    return [(list(bar), amounts[bar]) for bar in amounts]


def turns_of(bounds):
    """The reaches, rising, from which the price may be less than at lesser ones: 0, and where a clash ends."""
    falling = [(floor, roof) for at, roof in enumerate(bounds) if roof[1] for floor in bounds[:at] if not floor[1]]
    edges = [edge_of(clash) for clash in falling if steepness(clash) < 0]
    return sorted({edge for edge in [0, *edges] if edge >= 0})


def is_clash(k, sayings, reach, thing):
    """Whether it is a tuple of a bar of this reach and an amount."""
    if not isinstance(thing, tuple) or len(thing) != 2 or not is_whole_from(thing[1], 1):
        return False
    bar = thing[0]
    if not are_places(bar, len(sayings)) or len(bar) > most_in_bar(reach):
        return False
    return bar_of(k, [sayings[place] for place in bar], reach=reach) is not None


def are_paid(left, clashes, prices):
    """Whether no saying bears more of the amounts than its price, and all are the price of what is left out."""
    borne = [0] * len(prices)
    for bar, amount in clashes:
        for place in bar:
            borne[place] += amount
    if any([amount > price for amount, price in zip(borne, prices)]):
        return False
    return sum([amount for _, amount in clashes]) == sum([prices[place] for place in left])
