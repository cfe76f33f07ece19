"""Things steered by a rule: at once, by rounded numbers, or a turn late."""

from steadyhand.errors import BadRule, TooMany
from steadyhand.fractions import is_whole
from steadyhand.rules import is_straight, pieces
from steadyhand.tables import mixed, scaled
from steadyhand.things import MOST_NUMBERS, Mode, Thing


def steered(thing, rule):
    parts = pieces(rule, thing.many)
    modes = []
    for mode in thing.modes():
        for rows, straight in parts:
            modes.append(steered_mode(mode, rows, straight))
    return Thing(thing.many, thing.pushes(), modes)


def steered_mode(mode, rows, straight):
    factor = straight.divisor
    return Mode(
        mode.rows + rows,
        [mixed(factor, part, steer, straight.numbers) for part, steer in zip(mode.nexts, mode.steer)],
        [0 for steer in mode.steer],
        [scaled(factor, part) for part in mode.push],
        mixed(factor, mode.add, straight.add, mode.steer),
        factor * mode.divisor)


def rounded(thing, straight, size):
    if not is_straight(straight, thing.many):
        raise BadRule("only a straight over so many numbers reads rounded numbers")
    if not is_whole(size) or size < 1:
        raise BadRule("numbers are rounded by a whole number from 1 on")
    readings = [(0, size) for place in range(thing.many)]
    modes = [rounded_mode(mode, straight) for mode in thing.modes()]
    return Thing(thing.many, thing.pushes() + readings, modes)


def rounded_mode(mode, straight):
    exact = steered_mode(mode, [], straight)
    push = [part + scaled(-steer, straight.numbers) for part, steer in zip(exact.push, mode.steer)]
    return Mode(exact.rows, exact.nexts, exact.steer, push, exact.add, exact.divisor)


def late(thing, rule):
    parts = pieces(rule, thing.many)
    # A thing of four numbers would be no thing; here there is just one number too many.
    if thing.many == MOST_NUMBERS:
        raise TooMany("late steering takes one number more than a thing has")
    modes = []
    for mode in thing.modes():
        for rows, straight in parts:
            modes.append(late_mode(mode, rows, straight))
    return Thing(thing.many + 1, thing.pushes(), modes)


def late_mode(mode, rows, straight):
    factor = straight.divisor
    nexts = [scaled(factor, part + [steer]) for part, steer in zip(mode.nexts, mode.steer)]
    push = [scaled(factor, part) for part in mode.push]
    return Mode(
        [row[:-1] + (0, row[-1]) for row in mode.rows + rows],
        nexts + [scaled(mode.divisor, straight.numbers) + [0]],
        [0 for steer in mode.steer] + [0],
        push + [[0 for number in push[0]]],
        scaled(factor, mode.add) + [mode.divisor * straight.add],
        mode.divisor * factor)
