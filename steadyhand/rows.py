"""Rows over some numbers, the bound last; the points that hold them; and rooms, lists of rows."""

from steadyhand.fractions import common_divisor, fraction, under


def along(row, point):
    # Brought to lowest terms only once, at the end: that is the slow part of adding.
    top = 0
    bottom = 1
    for number, part in zip(row[:-1], point):
        top = top * part[1] + number * part[0] * bottom
        bottom = bottom * part[1]
    return fraction(top, bottom)


def holds(row, point):
    return not under(fraction(row[-1]), along(row, point))


def lies_in(room, point):
    return all([holds(row, point) for row in room])


def direction(row):
    common = common_divisor(row[:-1])
    if common == 0:
        return row[:-1]
    return tuple([number // common for number in row[:-1]])


def tidied(room):
    # Keys stay where they first came, which is the order asked for, also when a lesser bound comes later.
    least = {}
    shut = []
    for row in room:
        common = common_divisor(row[:-1])
        if common != 0:
            way = direction(row)
            bound = fraction(row[-1], common)
            if way not in least or under(bound, least[way]):
                least[way] = bound
        elif row[-1] < 0:
            shut = [row[:-1] + (-1,)]
    return [bounded(way, bound) for way, bound in least.items()] + shut


def bounded(way, bound):
    # A direction has no common divisor above 1, nor has a fraction: so nor has this row.
    return tuple([number * bound[1] for number in way]) + (bound[0],)
