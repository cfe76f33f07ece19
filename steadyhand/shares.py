"""Rows added by numbers, and shares: numbers by which rows show a row."""

from steadyhand.fractions import is_whole
from steadyhand.tables import added_up, scaled


def added(rows, numbers, many):
    return tuple(added_up(numbers, rows, many + 1))


def is_from_0_on(value):
    return is_whole(value) and value >= 0


def are_shares(value, count):
    if not isinstance(value, tuple) or len(value) != 2:
        return False
    if not is_from_0_on(value[0]) or not isinstance(value[1], list) or len(value[1]) != count:
        return False
    return all([is_from_0_on(number) for number in value[1]])


def shows(rows, target, shares):
    if not are_shares(shares, len(rows)):
        return False
    total = added(rows, shares[1], len(target) - 1)
    if shares[0] == 0:
        # Nothing comes to less than 0 by noughts alone: no point holds all the rows.
        return all([number == 0 for number in total[:-1]]) and total[-1] < 0
    wanted = scaled(shares[0], target)
    return list(total[:-1]) == wanted[:-1] and total[-1] <= wanted[-1]
