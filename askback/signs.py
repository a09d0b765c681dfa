"""Numbers by their signs, by a base."""

# Numbers from here on, 10 to the 18, are divided by great powers, not sign by sign.
GREAT = 1000000000000000000


def signs_of(number, base):
    """The signs of the number, the greatest place first; none of 0."""
    signs = []
    while number > 0:
        number, sign = divmod(number, base)
        signs.append(sign)
    return signs[::-1]


def exponent_of(number, base):
    """How many signs stand behind the first one."""
    return first_of(number, base)[0]


def first_sign(number, base):
    """The first of its signs."""
    return first_of(number, base)[1]


def first_of(number, base):
    """How many signs stand behind the first one, and that one."""
    if number >= GREAT:
        return first_of_great(number, base)
    exponent = 0
    while number >= base:
        number = number // base
        exponent += 1
    return exponent, number


def first_of_great(number, base):
    """The same, by squares of squares of the base, the greatest one first."""
    squares = [base]
    while squares[-1] <= number:
        squares.append(squares[-1] * squares[-1])
    exponent = 0
    for square in squares[-2::-1]:
        exponent = 2 * exponent
        if square <= number:
            number = number // square
            exponent += 1
    return exponent, number


def noughts_of(number, base):
    """How often the base divides the number."""
    noughts = 0
    while number > 0 and number % base == 0:
        number = number // base
        noughts += 1
    return noughts


def heap_of(number, base):
    """The number without its last sign, without its last two, and so on, together."""
    heap = 0
    while number >= base:
        number = number // base
        heap += number
    return heap


def power_of(base, exponent):
    """The base to the exponent, from 0 on."""
    power = 1
    square = base
    while exponent > 0:
        if exponent % 2 == 1:
            power = power * square
        square = square * square
        exponent = exponent // 2
    return power
