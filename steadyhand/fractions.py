"""Whole numbers, and fractions: tuples (top, bottom) in lowest terms, the bottom from 1 on."""

from steadyhand.errors import NoNumber


def is_whole(thing):
    # Python counts True and False among its ints; here they are no numbers.
    return isinstance(thing, int) and not isinstance(thing, bool)


def common_divisor(numbers):
    # 0 for noughts alone: every number divides them, so there is no greatest one.
    common = 0
    for number in numbers:
        rest = abs(number)
        while rest != 0:
            left = common % rest
            common = rest
            rest = left
    return common


def is_fraction(thing):
    if not isinstance(thing, tuple) or len(thing) != 2:
        return False
    if not is_whole(thing[0]) or not is_whole(thing[1]):
        return False
    return thing[1] >= 1 and common_divisor(thing) == 1


def fraction(top, bottom=1):
    if not is_whole(top) or not is_whole(bottom):
        raise NoNumber("a fraction is made of whole numbers")
    if bottom == 0:
        raise NoNumber("the bottom of a fraction is not 0")
    common = common_divisor((top, bottom))
    if bottom < 0:
        # Dividing by a number below 0 turns both signs at once.
        common = -common
    return (top // common, bottom // common)


def plus(one, other):
    return fraction(one[0] * other[1] + other[0] * one[1], one[1] * other[1])


def minus(one, other):
    return fraction(one[0] * other[1] - other[0] * one[1], one[1] * other[1])


def times(one, other):
    return fraction(one[0] * other[0], one[1] * other[1])


def under(one, other):
    # Bottoms are above 0, so multiplying by them keeps the order.
    return one[0] * other[1] < other[0] * one[1]


def floor_of(value):
    return value[0] // value[1]


def ceiling_of(value):
    # The sign is turned twice because // goes down, also below 0.
    return -(-value[0] // value[1])
