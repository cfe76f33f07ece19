"""What must hold ahead of a turn so that a row holds behind it."""

from steadyhand.rows import single
from steadyhand.tables import added_up, paired


def standing(thing, rows):
    pushes = thing.pushes()
    wide = thing.many + len(pushes)
    noughts = tuple([0 for push in pushes])
    told = [row[:-1] + noughts + (row[-1],) for row in rows]
    for place, push in enumerate(pushes, start=thing.many):
        told.append(single(place, wide, 1, push[1]))
        told.append(single(place, wide, -1, -push[0]))
    return told


def reach(thing, mode, row):
    numbers = row[:-1]
    ahead = added_up(numbers, mode.nexts, thing.many) + added_up(numbers, mode.push, len(thing.pushes()))
    return tuple(ahead) + (mode.divisor * row[-1] - paired(numbers, mode.add),)


def worst_pushes(thing, row):
    # Of a row over the numbers and the pushes; where a push counts by 0, its low does as well as its high.
    return [push[1] if number > 0 else push[0] for number, push in zip(row[thing.many:-1], thing.pushes())]


def without_pushes(thing, row):
    # The points that hold the row whatever the pushes are.
    return row[:thing.many] + (row[-1] - paired(row[thing.many:-1], worst_pushes(thing, row)),)
