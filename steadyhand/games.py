"""Games on a plain thing: the rooms in which it can be held, how, and how it is thrown out of the others."""

from steadyhand.errors import TooMany
from steadyhand.fractions import fraction, under
from steadyhand.reach import reach, without_pushes, worst_pushes
from steadyhand.rows import divided_sum, holds, lies_in, single, tidied
from steadyhand.runs import point_behind
from steadyhand.tables import mixed, paired
from steadyhand.things import ask_plain

MOST_ROWS = 60


def held_rooms(thing, safe, low, high, turns):
    ask_plain(thing)
    rooms = [counted(tidied(safe))]
    for turn in range(turns):
        rooms.append(counted(tidied(safe + without_steering(steering_rows(thing, rooms[-1], low, high)))))
    return rooms


def counted(room):
    if len(room) > MOST_ROWS:
        raise TooMany("a held room has sixty rows at most")
    return room


def steering_rows(thing, room, low, high):
    # Rows over the numbers and the steering: which steerings, from which points, lead into the room.
    mode = thing.modes()[0]
    told = []
    for row in room:
        ahead = without_pushes(thing, reach(thing, mode, row))
        told.append(ahead[:-1] + (paired(row[:-1], mode.steer), ahead[-1]))
    return told + [single(thing.many, thing.many + 1, 1, high), single(thing.many, thing.many + 1, -1, -low)]


def without_steering(rows):
    told = [row[:-2] + (row[-1],) for row in rows if row[-2] == 0]
    uppers = [row for row in rows if row[-2] > 0]
    lowers = [row for row in rows if row[-2] < 0]
    for upper in uppers:
        for lower in lowers:
            both = mixed(-lower[-2], upper, upper[-2], lower)
            told.append(tuple(both[:-2]) + (both[-1],))
    return told


def holder(thing, safe, low, high, turns, point):
    rooms = held_rooms(thing, safe, low, high, turns)
    if not lies_in(rooms[turns], point):
        return None
    # The point lies in the held room, so all that bounds the steering from below lies below all that bounds it from
    # above: the greatest of these bounds will do, and is the least steering that does.
    steering = fraction(low)
    for row in steering_rows(thing, rooms[turns - 1], low, high):
        if row[-2] < 0:
            bound = divided_sum(row[:-2], point, -row[-1], -row[-2])
            if under(steering, bound):
                steering = bound
    return steering


def foe(thing, safe, low, high, turns, point, steering):
    rooms = held_rooms(thing, safe, low, high, turns)
    mode = thing.modes()[0]
    for row in rooms[turns - 1]:
        pushes = [fraction(push) for push in worst_pushes(thing, reach(thing, mode, row))]
        if not holds(row, point_behind(mode, point, steering, pushes)):
            return pushes
    return None
