"""Runs of a thing: which steps can be made, and the points that come of them."""

from steadyhand.errors import NoRun
from steadyhand.fractions import fraction, under
from steadyhand.rows import divided_sum, lies_in


def point_behind(mode, point, steering, pushes):
    return [number_behind(mode, place, point, steering, pushes) for place in range(len(mode.nexts))]


def number_behind(mode, place, point, steering, pushes):
    numbers = mode.nexts[place] + mode.push[place]
    values = point + pushes
    # Where nothing of the steering goes in, it is not read: there it may be anything.
    if mode.steer[place] != 0:
        numbers = numbers + [mode.steer[place]]
        values = values + [steering]
    return divided_sum(numbers, values, mode.add[place], mode.divisor)


def walked(thing, point, run):
    modes = thing.modes()
    bounds = thing.pushes()
    points = [list(point)]
    for number, step in enumerate(run):
        if not can_be_made(modes, bounds, points[-1], step):
            raise NoRun(number)
        points.append(point_behind(modes[step[0]], points[-1], step[1], step[2]))
    return points


def can_be_made(modes, bounds, point, step):
    if step[0] < 0 or step[0] >= len(modes):
        return False
    if not lies_in(modes[step[0]].rows, point) or len(step[2]) != len(bounds):
        return False
    return all([lies_between(push, bound) for push, bound in zip(step[2], bounds)])


def lies_between(push, bound):
    return not under(push, fraction(bound[0])) and not under(fraction(bound[1]), push)
