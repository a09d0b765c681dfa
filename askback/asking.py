"""Who asks whom, and what comes through whom."""


def asked(house, place):
    """The places that the one at the place asks, such as are below 1, too; None of the beginning."""
    if place <= house.folk():
        return None
    return [asked_first_behind(house, place - i - 1) for i in range(house.base())]


def asked_first_behind(house, place):
    """Whom whoever comes next to the place asks first, be it below 1."""
    return place + 1 - house.reach() - house.said(place)


def leads(house, place):
    """Where the place leads: to whom whoever comes next asks first; None where that is below 1."""
    place_asked = asked_first_behind(house, place)
    return place_asked if place_asked >= 1 else None


def chain(house, place):
    """The place, and behind each that is behind the beginning where it leads."""
    return [row[0] for row in told_chain(house, place)]


def told_chain(house, place):
    """The chain of the place, each place of it with what is said there, and whether it is the first that says it."""
    folk, reach = house.folk(), house.reach()
    number = house.said(place)
    ahead = place - house.first_place(number)
    rows = [(place, number, ahead == 0)]
    while place > folk:
        place += 1 - reach - number
        number, ahead = said_where_led(house, number, ahead)
        rows.append((place, number, ahead == 0))
    return rows


def said_where_led(house, number, ahead):
    """What is said where the one leads who says the number behind so many others, and how many say it ahead there.

    So no place of a chain has to be looked for.
    """
    base = house.base()
    if ahead == 0:
        return (number + base - 1) // base, 0
    # Whoever isn't the first says a number that k divides; what is left of it is said one time less.
    if ahead == house.times(number) - 1:
        return number // base + 1, 0
    return number // base, ahead


def number_at(house, place):
    """What is said at the place, and whether it is the first place of that number."""
    number = house.said(place)
    return number, house.first_place(number) == place


def asked_often(house, place, below):
    """How often the place is asked by those at places below the bound."""
    folk = house.folk()
    many = 0
    # Each k that come behind one that leads to the place ask there, but for the beginning, which asks nobody.
    ahead = led_from(house, place, 1)[1]
    while ahead >= 1 and leads(house, ahead) == place:
        many += max(0, min(below - 1, ahead + house.base()) - max(folk, ahead))
        ahead -= 1
    return many


def led_from(house, place, steps):
    """The first and the last place behind the beginning whose chain is at the place behind so many steps."""
    if place == 1:
        # Of the places behind the beginning only the first one leads here.
        return led_from(house, house.folk() + 1, steps - 1)
    first_number, last_number = numbers_behind(house, place)
    return place_led(house, place, first_number, steps), place_led(house, place, last_number, steps)


def numbers_behind(house, place):
    """What the first and the last that lead to the place, from 2 on, say, both divided by k."""
    number, is_first = number_at(house, place)
    # Who says k * (number - 1) last leads past all who say number - 1, to the first who says number.
    return (number - 1, number) if is_first else (number, number)


def place_led(house, place, number, steps):
    """The place behind so many steps back, the first of which says k * number, the next k times that, and so on.

    Whoever says a number leads to the place and one, less the reach and the number.
    """
    for _ in range(steps):
        number = number * house.base()
        place += number + house.reach() - 1
    return place


def last_with(house, steps):
    """The last of the places whose chains have so many steps."""
    return place_led(house, house.folk(), house.base() - 1, steps)


def led_again(house, place):
    """The one place behind the beginning that leads here and isn't the first one of its number."""
    # Where several lead here all but the first are first ones of their numbers.
    return led_from(house, place, 1)[0]


def hanging(house, place, below):
    """How many places below the bound have the place in their chains."""
    if place == 1:
        return 1 + hanging(house, house.folk() + 1, below) if below > 1 else 0
    base = house.base()
    first_number, last_number = numbers_behind(house, place)
    first = last = place
    many = 0
    while first < below:
        many += min(last, below - 1) - first + 1
        first = place_led(house, first, first_number, 1)
        last = place_led(house, last, last_number, 1)
        first_number = first_number * base
        last_number = last_number * base
    return many


def nearest(house, one, other):
    """The greatest place in the chains of both, and how many steps there are from each; None where none is."""
    steps_there = {place: steps for steps, place in enumerate(chain(house, other))}
    for steps, place in enumerate(chain(house, one)):
        if place in steps_there:
            return place, steps, steps_there[place]
    return None
