"""Rows over some numbers, the bound last; the points that hold them; and rooms, lists of rows."""

from steadyhand.fractions import common_divisor, fraction, is_whole, under
from steadyhand.tables import unit


def is_row(value, many):
    return isinstance(value, tuple) and len(value) == many + 1 and all([is_whole(number) for number in value])


def is_room(value, many):
    return isinstance(value, list) and all([is_row(row, many) for row in value])


def single(place, many, number, bound):
    return tuple(unit(place, many, number)) + (bound,)


def raw_sum(numbers, point):
    # Not brought to lowest terms: that is the slow part of adding, and only what is told needs it.
    top = 0
    bottom = 1
    for number, part in zip(numbers, point):
        top = top * part[1] + number * part[0] * bottom
        bottom = bottom * part[1]
    return (top, bottom)


def along(row, point):
    total = raw_sum(row[:-1], point)
    return fraction(total[0], total[1])


def divided_sum(numbers, point, add, divisor):
    total = raw_sum(numbers, point)
    return fraction(total[0] + add * total[1], total[1] * divisor)


def holds(row, point):
    total = raw_sum(row[:-1], point)
    return total[0] <= row[-1] * total[1]


def lies_in(room, point):
    return all([holds(row, point) for row in room])


def other_side(row):
    return tuple([-number for number in row])


def direction(row):
    common = common_divisor(row[:-1])
    if common == 0:
        return row[:-1]
    return tuple([number // common for number in row[:-1]])


def tidied(room):
    # Keys stay where they first came, which is the order asked for, also when a lesser bound comes later.
    least = {}
    shut = []
    for row in room:
        common = common_divisor(row[:-1])
        if common != 0:
            way = direction(row)
            bound = fraction(row[-1], common)
            if way not in least or under(bound, least[way]):
                least[way] = bound
        elif row[-1] < 0:
            shut = [row[:-1] + (-1,)]
    return [bounded(way, bound) for way, bound in least.items()] + shut


def bounded(way, bound):
    # A direction has no common divisor above 1, nor has a fraction: so nor has this row.
    return tuple([number * bound[1] for number in way]) + (bound[0],)
