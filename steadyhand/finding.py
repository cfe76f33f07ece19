"""Papers found for a room, or for a room and a measure."""

from steadyhand.claims import Comes, Settles
from steadyhand.fractions import ceiling_of, floor_of, fraction, minus, times
from steadyhand.most import most, shares_for
from steadyhand.papers import (
    Falls, Rooms, comes_over, fall_row, height_at_most, height_from_0_on, settles_over)
from steadyhand.reach import reach, without_pushes
from steadyhand.rows import is_room, is_row, other_side
from steadyhand.things import ask_closed


def room_paper(thing, claim, room):
    ask_closed(thing)
    if not isinstance(claim, Settles) or not settles_over(claim, thing.many) or not is_room(room, thing.many):
        return None
    starts = [shares_for(claim.start, row) for row in room]
    stays = [shares_for(room, row) for row in claim.rows]
    if None in starts or None in stays:
        return None
    steps = found_steps(thing, room)
    if steps is None:
        return None
    return Rooms([room], 0, starts, [steps], [stays])


def found_steps(thing, room):
    told = []
    for mode in thing.modes():
        shares = [standing_shares(thing, room + mode.rows, reach(thing, mode, row)) for row in room]
        if None in shares:
            return None
        told.append(shares)
    return told


def standing_shares(thing, rows, target):
    # Each push is bounded by itself alone, so what its two rows add is known; only the rows must be looked at.
    shares = shares_for(rows, without_pushes(thing, target))
    if shares is None:
        return None
    numbers = list(shares[1])
    for number in target[thing.many:-1]:
        numbers.append(shares[0] * max(number, 0))
        numbers.append(shares[0] * max(-number, 0))
    return (shares[0], numbers)


def measure_paper(thing, claim, room, measure):
    ask_closed(thing)
    if not isinstance(claim, Comes) or not comes_over(claim, thing.many):
        return None
    if not is_room(room, thing.many) or not is_row(measure, thing.many):
        return None
    top = least_top(claim.start, measure)
    if top is None:
        return None
    step = greatest_step(thing, claim, room, measure, top)
    if step is None or step < 1 or claim.turns * step <= top:
        return None
    return fall_paper(thing, claim, room, measure, step, top)


def least_top(start, measure):
    told = most(start, measure)
    if told[0] == "empty":
        # Any top is shown, and one below 0 asks for no turns.
        return -1
    if told[0] == "open":
        return None
    return ceiling_of(told[1]) + measure[-1]


def greatest_step(thing, claim, room, measure, top):
    # Where nothing bounds the step, a step of more than the top comes below 0 in one turn.
    step = None
    for mode in thing.modes():
        target = without_pushes(thing, fall_row(thing, mode, measure, 0))
        for row in claim.goal:
            told = most(room + mode.rows + [other_side(row)], target)
            if told[0] == "open":
                return None
            if told[0] == "most":
                spare = minus(fraction(target[-1]), told[1])
                bound = floor_of(times(spare, fraction(1, mode.divisor)))
                step = bound if step is None else min(step, bound)
    return max(1, top + 1) if step is None else step


def fall_paper(thing, claim, room, measure, step, top):
    starts = [shares_for(claim.start, row) for row in room]
    floors = [shares_for(room + [other_side(row)], height_from_0_on(measure)) for row in claim.goal]
    if None in starts or None in floors:
        return None
    steps = found_steps(thing, room)
    if steps is None:
        return None
    falls = [found_falls(thing, mode, claim, room, fall_row(thing, mode, measure, step)) for mode in thing.modes()]
    tops = shares_for(claim.start, height_at_most(measure, top))
    return Falls(room, starts, steps, measure, step, top, falls, floors, tops)


def found_falls(thing, mode, claim, room, target):
    return [standing_shares(thing, room + mode.rows + [other_side(row)], target) for row in claim.goal]
