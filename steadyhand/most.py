"""The most of a row over a room, exactly: from corner to corner, and what shows that it is the most.

A corner is a list of n places in the room's rows, with the n axes behind them, whose numbers are independent; its
point is the one along which all of these come to just their bounds. Axes are in it only where the room's own rows do
not suffice; they bound nothing, but hold the point still where no row does.
"""

from steadyhand.fractions import common_divisor, floor_of, fraction, minus, times, under
from steadyhand.rows import along, holds, single
from steadyhand.solving import solved
from steadyhand.tables import paired


def most(room, row):
    count = len(room)
    rows = room + axes(len(row) - 1)
    corner = first_corner(rows, count)
    # The least place is taken each time, of the rows that do not hold and of those that go (Bland's way): so no
    # corner comes twice, and this ends.
    while True:
        broken = first_broken(room, corner_point(rows, corner))
        if broken is None:
            return climbed(rows, count, corner, row)
        weights = weights_of(rows, corner, rows[broken])
        place = least_place(corner, [weight[0] > 0 for weight in weights])
        if place is None:
            turned_about = [fraction(-weight[0], weight[1]) for weight in weights]
            return ("empty", (0, spread(count, corner + [broken], turned_about + [fraction(1)])[1]))
        corner = exchanged(corner, place, broken)


def climbed(rows, count, corner, row):
    # From a corner whose point lies in the room to one that has the most; it ends for the same reason.
    while True:
        point = corner_point(rows, corner)
        weights = weights_of(rows, corner, row)
        place = least_place(corner, [weight[0] < 0 or (number >= count and weight[0] != 0)
                                     for number, weight in zip(corner, weights)])
        if place is None:
            return ("most", along(row, point), spread(count, corner, weights), point)
        way = way_off(rows, corner, place, 1 if weights[place][0] > 0 else -1)
        met = first_met(rows[:count], point, way)
        if met is None:
            return ("open", point, way)
        corner = exchanged(corner, place, met)


def axes(many):
    return [single(place, many, 1, 0) for place in range(many)]


def first_corner(rows, count):
    corner = list(range(count, len(rows)))
    for number in range(count):
        if max(corner) < count:
            return corner
        weights = weights_of(rows, corner, rows[number])
        place = least_place(corner, [axis >= count and weight[0] != 0 for axis, weight in zip(corner, weights)])
        if place is not None:
            corner = exchanged(corner, place, number)
    return corner


def corner_point(rows, corner):
    return solved([rows[number] for number in corner])


def weights_of(rows, corner, row):
    # By these the corner's rows add up to the row's numbers.
    return solved([tuple([rows[number][place] for number in corner]) + (row[place],) for place in range(len(corner))])


def way_off(rows, corner, place, number):
    # Along this way only the corner's row at the place changes: up by the sign of the number.
    equations = [rows[other][:-1] + (number if other == corner[place] else 0,) for other in corner]
    return over_one_bottom(solved(equations))[1]


def least_place(corner, fit):
    places = [place for place in range(len(corner)) if fit[place]]
    return min(places, key=lambda place: corner[place], default=None)


def exchanged(corner, place, number):
    return corner[:place] + [number] + corner[place + 1:]


def first_broken(room, point):
    for number, row in enumerate(room):
        if not holds(row, point):
            return number
    return None


def first_met(room, point, way):
    met = None
    least = fraction(0)
    for number, row in enumerate(room):
        speed = paired(row[:-1], way)
        if speed > 0:
            spare = times(minus(fraction(row[-1]), along(row, point)), fraction(1, speed))
            if met is None or under(spare, least):
                met = number
                least = spare
    return met


def over_one_bottom(values):
    bottom = 1
    for value in values:
        bottom = bottom * value[1] // common_divisor((bottom, value[1]))
    return (bottom, [value[0] * (bottom // value[1]) for value in values])


def spread(count, corner, weights):
    whole = over_one_bottom(weights)
    numbers = [0 for number in range(count)]
    for number, share in zip(corner, whole[1]):
        # What axes weigh is 0 here: they are none of the room's rows and have no share.
        if number < count:
            numbers[number] = share
    return (whole[0], numbers)


def shares_for(room, target):
    told = most(room, target)
    if told[0] == "empty":
        return told[1]
    if told[0] == "open" or under(fraction(target[-1]), told[1]):
        return None
    return told[2]


def point_beyond(room, target):
    told = most(room, target)
    if told[0] == "open":
        return gone(told[1], told[2], target)
    if told[0] == "empty" or not under(fraction(target[-1]), told[1]):
        return None
    return told[3]


def gone(point, way, target):
    # Far enough along the way that the target does not hold.
    missing = times(minus(fraction(target[-1]), along(target, point)), fraction(1, paired(target[:-1], way)))
    turns = max(0, floor_of(missing) + 1)
    return [fraction(value[0] + turns * number * value[1], value[1]) for value, number in zip(point, way)]
