"""The one point along which rows come to just their bounds."""

from steadyhand.fractions import fraction


def solved(rows):
    left = rows
    last = 1
    for place in range(len(rows)):
        found = first_with(left, place)
        if found is None:
            return None
        left = put_ahead(left, place, found)
        pivot = left[place]
        # Each number here is a determinant of the numbers handed in, so dividing by the last pivot is exact; without
        # it the numbers would double their figures at each place.
        left = [row if number == place else cleared(row, pivot, place, last) for number, row in enumerate(left)]
        last = pivot[place]
    return [fraction(row[-1], row[place]) for place, row in enumerate(left)]


def first_with(rows, place):
    for number in range(place, len(rows)):
        if rows[number][place] != 0:
            return number
    return None


def put_ahead(rows, place, found):
    told = list(rows)
    told[place] = rows[found]
    told[found] = rows[place]
    return told


def cleared(row, pivot, place, last):
    return [(pivot[place] * number - row[place] * other) // last for number, other in zip(row, pivot)]
