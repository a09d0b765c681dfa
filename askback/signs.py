"""Numbers by their signs, by a base."""


def signs_of(number, base):
    """The signs of the number, the greatest place first; none of 0."""
    signs = []
    while number > 0:
        number, sign = divmod(number, base)
        signs.append(sign)
    return signs[::-1]


def exponent_of(number, base):
    """How many signs stand behind the first one."""
    exponent = 0
    while number >= base:
        number = number // base
        exponent += 1
    return exponent


def first_sign(number, base):
    """The first of its signs."""
    while number >= base:
        number = number // base
    return number


def noughts_of(number, base):
    """How often the base divides the number."""
    noughts = 0
    while number > 0 and number % base == 0:
        number = number // base
        noughts += 1
    return noughts


def heap_of(number, base):
    """The number without its last sign, without its last two, and so on, together."""
    heap = 0
    while number >= base:
        number = number // base
        heap += number
    return heap


def power_of(base, exponent):
    """The base to the exponent, from 0 on."""
    power = 1
    for _ in range(exponent):
        power = power * base
    return power
