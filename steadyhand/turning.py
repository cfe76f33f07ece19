"""Points, rows and things told in other numbers: turned there, and back."""

from steadyhand.errors import BadTurn
from steadyhand.rows import divided_sum
from steadyhand.tables import added_up, is_table, paired, unit
from steadyhand.things import Mode, Thing


def turned_point(there, point):
    return [divided_sum(numbers, point, 0, 1) for numbers in there]


def turned_row(back, row):
    return tuple(added_up(row[:-1], back, len(row) - 1)) + (row[-1],)


def turned(thing, there, back):
    if not is_turn(there, back, thing.many):
        raise BadTurn("there, then back, does not leave all numbers as they are")
    modes = [turned_mode(mode, there, back, len(thing.pushes())) for mode in thing.modes()]
    return Thing(thing.many, thing.pushes(), modes)


def is_turn(there, back, many):
    if not is_table(there, many, many) or not is_table(back, many, many):
        return False
    return product(there, back, many) == [unit(place, many) for place in range(many)]


def product(table, other, wide):
    return [added_up(numbers, other, wide) for numbers in table]


def turned_mode(mode, there, back, wide):
    many = len(there)
    return Mode(
        [turned_row(back, row) for row in mode.rows],
        product(product(there, mode.nexts, many), back, many),
        [paired(numbers, mode.steer) for numbers in there],
        product(there, mode.push, wide),
        [paired(numbers, mode.add) for numbers in there],
        mode.divisor)
