"""Modes and things: how the numbers change from turn to turn."""

from steadyhand.errors import BadThing, NotClosed, NotPlain, TooMany
from steadyhand.fractions import is_whole
from steadyhand.rows import is_room
from steadyhand.tables import copied, is_numbers, is_table

MOST_NUMBERS = 3
MOST_PUSHES = 6
MOST_MODES = 40


class Mode:
    def __init__(self, rows, nexts, steer, push, add, divisor):
        self.rows = copied(rows)
        self.nexts = copied(nexts)
        self.steer = copied(steer)
        self.push = copied(push)
        self.add = copied(add)
        self.divisor = divisor


class Thing:
    def __init__(self, many, pushes, modes):
        if not is_sound(many, pushes, modes):
            raise BadThing("this is no thing")
        if len(pushes) > MOST_PUSHES or len(modes) > MOST_MODES:
            raise TooMany("a thing has six pushes and forty modes at most")
        self.many = many
        self.kept_pushes = list(pushes)
        self.kept_modes = list(modes)

    def pushes(self):
        return list(self.kept_pushes)

    def modes(self):
        return list(self.kept_modes)

    def is_closed(self):
        return all([is_unsteered(mode) for mode in self.kept_modes])

    def is_plain(self):
        return len(self.kept_modes) == 1 and len(self.kept_modes[0].rows) == 0


def is_sound(many, pushes, modes):
    if not is_whole(many) or many < 1 or many > MOST_NUMBERS:
        return False
    if not isinstance(pushes, list) or not all([is_push(push) for push in pushes]):
        return False
    if not isinstance(modes, list) or len(modes) == 0:
        return False
    return all([is_mode(mode, many, len(pushes)) for mode in modes])


def is_push(value):
    if not isinstance(value, tuple) or len(value) != 2:
        return False
    return is_whole(value[0]) and is_whole(value[1]) and value[0] <= value[1]


def is_mode(value, many, wide):
    if not isinstance(value, Mode) or not is_room(value.rows, many):
        return False
    if not is_table(value.nexts, many, many) or not is_table(value.push, many, wide):
        return False
    if not is_numbers(value.steer, many) or not is_numbers(value.add, many):
        return False
    return is_whole(value.divisor) and value.divisor >= 1


def is_unsteered(mode):
    return all([number == 0 for number in mode.steer])


def ask_closed(thing):
    if not thing.is_closed():
        raise NotClosed("the thing is not closed")


def ask_plain(thing):
    if not thing.is_plain():
        raise NotPlain("the thing is not plain")
