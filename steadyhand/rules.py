"""Steering rules: what each tells of a point, and the pieces of which it is made."""

from steadyhand.errors import BadRule, TooMany
from steadyhand.fractions import fraction, is_whole, under
from steadyhand.rows import divided_sum, holds, is_row, other_side
from steadyhand.tables import copied, is_numbers

MOST_PIECES = 60


class Rule:
    pass


class Straight(Rule):
    def __init__(self, numbers, add, divisor=1):
        self.numbers = copied(numbers)
        self.add = add
        self.divisor = divisor

    def steering(self, point):
        return divided_sum(self.numbers, point, self.add, self.divisor)


class Stopped(Rule):
    def __init__(self, rule, low, high):
        self.rule = rule
        self.low = low
        self.high = high

    def steering(self, point):
        value = self.rule.steering(point)
        if under(value, fraction(self.low)):
            return fraction(self.low)
        if under(fraction(self.high), value):
            return fraction(self.high)
        return value


class Parted(Rule):
    def __init__(self, row, rule, other):
        self.row = copied(row)
        self.rule = rule
        self.other = other

    def steering(self, point):
        if holds(self.row, point):
            return self.rule.steering(point)
        return self.other.steering(point)


def is_rule(value, many):
    if isinstance(value, Straight):
        return is_straight(value, many)
    if isinstance(value, Stopped):
        return are_stops(value.low, value.high) and is_rule(value.rule, many)
    if isinstance(value, Parted):
        return is_row(value.row, many) and is_rule(value.rule, many) and is_rule(value.other, many)
    return False


def is_straight(value, many):
    if not isinstance(value, Straight) or not is_numbers(value.numbers, many):
        return False
    return is_whole(value.add) and is_whole(value.divisor) and value.divisor >= 1


def are_stops(low, high):
    return is_whole(low) and is_whole(high) and low <= high


def piece_count(rule):
    if isinstance(rule, Stopped):
        return 3 * piece_count(rule.rule)
    if isinstance(rule, Parted):
        return piece_count(rule.rule) + piece_count(rule.other)
    return 1


def pieces(rule, many):
    if not is_rule(rule, many):
        raise BadRule("this is no rule over so many numbers")
    # Counted ahead of listing: a few stops in one another would make more pieces than can be kept.
    if piece_count(rule) > MOST_PIECES:
        raise TooMany("a rule has sixty pieces at most")
    return listed(rule)


def listed(rule):
    if isinstance(rule, Stopped):
        return stopped_pieces(rule)
    if isinstance(rule, Parted):
        return parted_pieces(rule)
    return [([], rule)]


def parted_pieces(rule):
    turned_about = other_side(rule.row)
    ones = [([rule.row] + rows, straight) for rows, straight in listed(rule.rule)]
    others = [([turned_about] + rows, straight) for rows, straight in listed(rule.other)]
    return ones + others


def stopped_pieces(rule):
    told = []
    for rows, straight in listed(rule.rule):
        noughts = [0 for number in straight.numbers]
        low_row = stop_row(straight, rule.low)
        high_row = stop_row(straight, rule.high)
        told.append((rows + [low_row], Straight(noughts, rule.low, 1)))
        told.append((rows + [other_side(low_row), high_row], straight))
        told.append((rows + [other_side(high_row)], Straight(noughts, rule.high, 1)))
    return told


def stop_row(straight, stop):
    # The points at which the straight tells the stop or less.
    return tuple(straight.numbers) + (straight.divisor * stop - straight.add,)
