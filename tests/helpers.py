"""What several tests share: exact numbers by Python's own fractions, things drawn by a fixed seed, refusals."""

import random
import unittest
from fractions import Fraction

from steadyhand.errors import SteadyError
from steadyhand.rules import Parted, Stopped, Straight
from steadyhand.things import Mode, Thing

# Some forty figures each.
LONG = 10 ** 40 + 7
LONG_OTHER = 3 ** 85
NOT_WHOLE = (True, False, None, "", "1", 1.0, 0.5, b"1", [], [1], (), (1,), {}, Fraction(1))
NOT_LISTS = (None, True, 0, 1, "", "12", (), (1, 2), {}, {1: 2})


def exact(value):
    return Fraction(value[0], value[1])


def told(number):
    value = Fraction(number)
    return (value.numerator, value.denominator)


def exact_point(point):
    return [exact(value) for value in point]


def told_point(numbers):
    return [told(number) for number in numbers]


def exact_along(numbers, point):
    """The sum of the numbers times the point's, both plain numbers."""
    return sum((number * value for number, value in zip(numbers, point)), Fraction(0))


def exact_lies_in(room, point):
    return all(exact_along(row[:-1], point) <= row[-1] for row in room)


def exact_behind(mode, point, steering, pushes):
    """Point 7, word by word, over plain numbers."""
    return [
        (exact_along(mode.nexts[i], point) + mode.steer[i] * steering + exact_along(mode.push[i], pushes)
         + mode.add[i]) / Fraction(mode.divisor)
        for i in range(len(point))]


def fields(mode):
    """A mode part by part, so that two can be compared."""
    return (mode.rows, mode.nexts, mode.steer, mode.push, mode.add, mode.divisor)


def all_fields(thing):
    return [fields(mode) for mode in thing.modes()]


def whole_thing(thing):
    return (thing.many, thing.pushes(), all_fields(thing))


def draw_numbers(source, count, size):
    return [source.randint(-size, size) for place in range(count)]


def draw_row(source, many, size, low=None):
    return tuple(draw_numbers(source, many, size)) + (source.randint(-size if low is None else low, 3 * size),)


def draw_room(source, many, size, count, low=None):
    return [draw_row(source, many, size, low) for place in range(count)]


def draw_box(source, many, size):
    """A room bounded on all sides, with points in it."""
    room = []
    for place in range(many):
        low = source.randint(-size, size)
        high = low + source.randint(0, size)
        room.append(tuple(1 if other == place else 0 for other in range(many)) + (high,))
        room.append(tuple(-1 if other == place else 0 for other in range(many)) + (-low,))
    return room


def draw_mode(source, many, wide, size=4, rows=0, closed=False):
    return Mode(
        draw_room(source, many, size, rows, low=0),
        [draw_numbers(source, many, size) for place in range(many)],
        [0] * many if closed else draw_numbers(source, many, size),
        [draw_numbers(source, wide, size) for place in range(many)],
        draw_numbers(source, many, size),
        source.randint(1, size))


def draw_pushes(source, wide, size=4):
    lows = draw_numbers(source, wide, size)
    return [(low, low + source.randint(0, size)) for low in lows]


def draw_thing(source, many, wide, modes=1, size=4, rows=0, closed=False):
    return Thing(
        many, draw_pushes(source, wide, size),
        [draw_mode(source, many, wide, size, rows, closed) for place in range(modes)])


def draw_rule(source, many, depth):
    kind = source.randint(0, 2) if depth else 0
    if kind == 0:
        return Straight(draw_numbers(source, many, 3), source.randint(-3, 3), source.randint(1, 3))
    if kind == 1:
        low = source.randint(-3, 3)
        return Stopped(draw_rule(source, many, depth - 1), low, low + source.randint(0, 3))
    return Parted(draw_row(source, many, 2), draw_rule(source, many, depth - 1), draw_rule(source, many, depth - 1))


def plain(rule):
    """A rule as nested tuples, so that two can be compared."""
    if isinstance(rule, Straight):
        return ("straight", rule.numbers, rule.add, rule.divisor)
    if isinstance(rule, Stopped):
        return ("stopped", plain(rule.rule), rule.low, rule.high)
    return ("parted", rule.row, plain(rule.rule), plain(rule.other))


def draw_fraction(source, size=6):
    return told(Fraction(source.randint(-size, size), source.randint(1, size)))


def draw_point(source, many, size=6):
    return [draw_fraction(source, size) for place in range(many)]


def draw_between(source, low, high):
    """A fraction from low to high; the ends come often."""
    bottom = source.choice((1, 1, 2, 3))
    return told(low + Fraction(source.randint(0, bottom), bottom) * (high - low))


def draw_push_values(source, thing):
    return [draw_between(source, low, high) for low, high in thing.pushes()]


def drawn(seed):
    return random.Random(seed)


class Case(unittest.TestCase):
    def refused(self, error, call, *parts):
        """It is refused with just this error, not with one under or above it."""
        with self.assertRaises(SteadyError) as caught:
            call(*parts)
        self.assertIs(type(caught.exception), error)
        return caught.exception
