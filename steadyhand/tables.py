"""Lists of whole numbers, and tables: lists of such lists."""

from steadyhand.fractions import is_whole


def is_numbers(value, count):
    return isinstance(value, list) and len(value) == count and all([is_whole(number) for number in value])


def is_table(value, tall, wide):
    return isinstance(value, list) and len(value) == tall and all([is_numbers(part, wide) for part in value])


def copied(value, depth=5):
    # Nothing that the program keeps lies deeper than five lists or tuples in one another (the shares in a paper's
    # steps do), and a list that holds itself must come to an end here too.
    if depth == 0:
        return value
    if isinstance(value, list):
        return [copied(part, depth - 1) for part in value]
    if isinstance(value, tuple):
        return tuple([copied(part, depth - 1) for part in value])
    return value


def unit(place, wide, number=1):
    return [number if other == place else 0 for other in range(wide)]


def scaled(factor, numbers):
    return [factor * number for number in numbers]


def mixed(factor, numbers, other_factor, others):
    return [factor * number + other_factor * other for number, other in zip(numbers, others)]


def paired(numbers, others):
    return sum([number * other for number, other in zip(numbers, others)])


def added_up(numbers, lists, wide):
    # The width is told, because no lists at all still add up to noughts.
    return [sum([number * part[place] for number, part in zip(numbers, lists)]) for place in range(wide)]
