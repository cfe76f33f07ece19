"""Papers built for tests by the document's words, by another way than the finder's: all rows at once, pushes too."""

from helpers import draw_push_values, draw_room, exact_lies_in, exact_point
from steadyhand.most import most, shares_for
from steadyhand.papers import Falls, Rooms
from steadyhand.reach import reach, standing
from steadyhand.rows import lies_in
from steadyhand.runs import walked
from steadyhand.things import Mode, Thing


def between(low, high):
    return [(1, high), (-1, -low)]


def around_0(size, many):
    return [tuple(sign if other == place else 0 for other in range(many)) + (size,)
            for place in range(many) for sign in (1, -1)]


def draw_shrinking(source, many, plain=False):
    """A closed thing of one or two modes that goes toward 0 more often than not."""
    wide = source.randint(0, 1)
    modes = [Mode(
        draw_room(source, many, 2, 0 if plain else source.randint(0, 1), low=0),
        [[source.choice((0, 0, 1, -1)) if other != place else 1 for other in range(many)] for place in range(many)],
        [0] * many, [[source.randint(-1, 1) for push in range(wide)] for place in range(many)],
        [source.randint(-1, 1) for place in range(many)], source.randint(2, 3))
        for number in range(1 if plain else source.randint(1, 2))]
    return Thing(many, [(-1, 1)] * wide, modes)


def built_steps(thing, room, behind):
    return [[shares_for(standing(thing, room + mode.rows), reach(thing, mode, row)) for row in behind]
            for mode in thing.modes()]


def built_rooms(thing, claim, rooms, back=0):
    following = rooms[1:] + [rooms[back]]
    return Rooms(
        rooms, back, [shares_for(claim.start, row) for row in rooms[0]],
        [built_steps(thing, room, behind) for room, behind in zip(rooms, following)],
        [[shares_for(room, row) for row in claim.rows] for room in rooms])


def side(row):
    return tuple(-number for number in row)


def fall(thing, mode, measure, step):
    ahead = list(reach(thing, mode, measure[:-1] + (0,)))
    for place in range(thing.many):
        ahead[place] -= mode.divisor * measure[place]
    ahead[-1] -= mode.divisor * step
    return tuple(ahead)


def built_fall(thing, claim, room, measure, step, top):
    numbers = measure[:-1]
    return Falls(
        room, [shares_for(claim.start, row) for row in room], built_steps(thing, room, room), measure, step, top,
        [[shares_for(standing(thing, room + mode.rows + [side(row)]), fall(thing, mode, measure, step))
          for row in claim.goal] for mode in thing.modes()],
        [shares_for(room + [side(row)], side(numbers) + (measure[-1],)) for row in claim.goal],
        shares_for(claim.start, numbers + (top - measure[-1],)))


def draw_start(source, start, many):
    """A point of the start: one at which some drawn row comes to its most; None where the start has no points."""
    row = tuple(source.randint(-3, 3) for place in range(many)) + (0,)
    told = most(start, row)
    if told[0] == "empty":
        return None
    return told[3] if told[0] == "most" else told[1]


def draw_run(source, thing, point, length):
    """A run from the point, as far as modes can be taken; and its points."""
    points = [point]
    run = []
    for turn in range(length):
        fit = [number for number, mode in enumerate(thing.modes()) if lies_in(mode.rows, points[-1])]
        if not fit:
            break
        step = (source.choice(fit), (0, 1), draw_push_values(source, thing))
        run.append(step)
        points.append(walked(thing, points[-1], [step])[-1])
    return run, points


def keeps_settles(claim, points):
    return all(exact_lies_in(claim.rows, exact_point(point)) for point in points[claim.turn:])


def keeps_comes(claim, points):
    if len(points) <= claim.turns:
        return True
    return any(exact_lies_in(claim.goal, exact_point(point)) for point in points[:claim.turns + 1])
