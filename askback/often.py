"""How often numbers are said, and sums of what is said."""

from askback.signs import exponent_of, power_of, signs_of


def how_many_said(house, times, upto):
    """How many of the numbers from 1 up to a bound are said just so many times."""
    base = house.base()
    most = exponent_of(upto, base)
    early = len([number for number in early_numbers(house, times, most) if number <= upto])
    # Times may be far greater than any exponent: its power is not to be built then.
    if times - 1 > most:
        return early
    bound = upto // power_of(base, times - 1)
    return early + max(0, bound - bound // base - (base - 1))


def nth_said(house, times, place):
    """The number at this place, from 0 on, among those that are said just so many times."""
    base = house.base()
    early = early_numbers(house, times, times)
    if place < len(early):
        return early[place]
    # All others, (k + 1) * k ** (times - 1) and more, are behind the early ones.
    blocks, rest = divmod(place - len(early), base - 1)
    return ((blocks + 1) * base + rest + 1) * power_of(base, times - 1)


def early_numbers(house, times, most):
    """Those said so many times that are a sign with noughts behind it, at most so many; rising."""
    found = []
    for sign, many in enumerate(house.beginning(), start=1):
        if 0 <= times - many <= most:
            found.append(sign * power_of(house.base(), times - many))
    return sorted(found)


def sum_upto(house, place):
    """The sum of all that is said up to the place, that one too."""
    number = house.said(place)
    behind = place - house.last_place(number - 1)
    return sum_of_numbers(house, number - 1) + number * behind


def least_place(house, total):
    """The least place up to which the sum is at least the total."""
    number, left = lighter_number(house, total)
    # The next number is said until what is left is reached: rounded up.
    return house.last_place(number) + (left + number) // (number + 1)


def sum_of_numbers(house, number):
    """The sum of all that is said up to the last place of the number; 0 of 0."""
    base = house.base()
    signs = signs_of(number, base)
    if not signs:
        return 0
    exponent = len(signs) - 1
    power = power_of(base, exponent)
    reached = signs[0] * power
    total = sum_of_round(house, signs[0], exponent, power)
    for sign in signs[1:]:
        exponent -= 1
        power = power // base
        total += sum_of_stretch(reached, sign, exponent, power, base)
        reached += sign * power
    return total


def lighter_number(house, total):
    """The greatest number up to whose last place the sum is less than the total, and how much less.

    It is found sign by sign, as going from number to number would never end.
    """
    base = house.base()
    exponent, power, sign = first_signs_below(house, total)
    reached = sign * power
    left = total - sum_of_round(house, sign, exponent, power)
    while exponent > 0:
        exponent -= 1
        power = power // base
        sign = 0
        while sign < base - 1 and sum_of_stretch(reached, sign + 1, exponent, power, base) < left:
            sign += 1
        left -= sum_of_stretch(reached, sign, exponent, power, base)
        reached += sign * power
    return reached, left


def first_signs_below(house, total):
    """The greatest exponent, its power and sign up to which the sum is less than the total; sign 0 where none is."""
    base = house.base()
    exponent = 0
    power = 1
    while sum_of_round(house, 1, exponent + 1, power * base) < total:
        exponent += 1
        power = power * base
    sign = 0
    while sign < base - 1 and sum_of_round(house, sign + 1, exponent, power) < total:
        sign += 1
    return exponent, power, sign


def sum_of_round(house, sign, exponent, power):
    """The sum up to the last place of sign * power, power being k ** exponent."""
    base = house.base()
    early = early_sums(house)
    rounds = (power - 1) // (base - 1)
    return sum_of_stretch(0, sign, exponent, power, base) + rounds * early[-1] + power * early[sign]


def sum_of_stretch(number, sign, exponent, power, base):
    """The sum of the sign * power numbers behind number, each as often as it has noughts, and once.

    Power is base ** exponent. Number is 0 or has more noughts than that, so
    the noughts of number + n are those of n.
    """
    folk = sign * (power * base - 1) // (base - 1)
    return number * folk + sign * power * (folk + exponent + 1) // 2


def early_sums(house):
    """Sums, of the first 0, 1, 2 .. of the beginning's numbers, each less one, times what they say."""
    sums = [0]
    for sign, many in enumerate(house.beginning(), start=1):
        sums.append(sums[-1] + sign * (many - 1))
    return sums
