"""Rooms of a shape: the first one over a start, and those that grow from it."""

from steadyhand.fractions import ceiling_of, fraction, minus, times
from steadyhand.most import most
from steadyhand.reach import reach, without_pushes
from steadyhand.things import ask_closed


def first_room(start, shape):
    told = []
    for numbers in shape:
        found = most(start, numbers + (0,))
        if found[0] != "most":
            return None
        told.append(numbers + (ceiling_of(found[1]),))
    return told


def grown_once(thing, room):
    ask_closed(thing)
    told = []
    for row in room:
        bound = grown_bound(thing, room, row)
        if bound is None:
            return None
        told.append(row[:-1] + (bound,))
    return told


def grown_bound(thing, room, row):
    bound = row[-1]
    for mode in thing.modes():
        ahead = without_pushes(thing, reach(thing, mode, row[:-1] + (0,)))
        found = most(room + mode.rows, ahead)
        if found[0] == "open":
            return None
        if found[0] == "most":
            least = times(minus(found[1], fraction(ahead[-1])), fraction(1, mode.divisor))
            bound = max(bound, ceiling_of(least))
    return bound


def grown(thing, start, shape, tries):
    ask_closed(thing)
    room = first_room(start, shape)
    for turn in range(tries + 1):
        if room is None:
            return None
        larger = grown_once(thing, room)
        if larger == room:
            return room
        room = larger
    return None
