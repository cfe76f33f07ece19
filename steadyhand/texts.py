"""Fractions, rooms, points, rules, runs, claims and things, written as texts and read from them."""

from steadyhand.claims import Comes, Settles
from steadyhand.errors import NoText
from steadyhand.fractions import fraction, is_fraction
from steadyhand.rules import Parted, Rule, Stopped, Straight
from steadyhand.things import Mode, Thing

FIGURES = "0123456789"
MOST_FIGURES = 60
NO_ROWS = "all"
ROW_BREAK = ", "
STEP_BREAK = "; "
PART_BREAK = " | "


def show_words(words):
    return " ".join([str(word) for word in words])


def show_fraction(value):
    if value[1] == 1:
        return str(value[0])
    return str(value[0]) + "/" + str(value[1])


def show_room(room):
    if len(room) == 0:
        return NO_ROWS
    return ROW_BREAK.join([show_words(row) for row in room])


def show_point(point):
    return " ".join([show_fraction(value) for value in point])


def show_rule(rule):
    if isinstance(rule, Stopped):
        return show_words(["stopped", rule.low, rule.high, show_rule(rule.rule)])
    if isinstance(rule, Parted):
        return show_words(["parted", show_words(rule.row), show_rule(rule.rule), show_rule(rule.other)])
    return show_words(["straight"] + rule.numbers + [rule.add, rule.divisor])


def show_step(step):
    return show_words([step[0], show_point([step[1]] + step[2])])


def show_run(run):
    return STEP_BREAK.join([show_step(step) for step in run])


def show_claim(claim):
    if isinstance(claim, Settles):
        return PART_BREAK.join([show_words(["settles", claim.turn]), show_room(claim.start), show_room(claim.rows)])
    return PART_BREAK.join([show_words(["comes", claim.turns]), show_room(claim.start), show_room(claim.goal)])


def show_thing(thing):
    lines = [show_words(["numbers", thing.many])]
    for push in thing.pushes():
        lines.append(show_words(["push", push[0], push[1]]))
    for mode in thing.modes():
        lines.extend(mode_lines(mode))
    return "\n".join(lines)


def mode_lines(mode):
    lines = [show_words(["mode", mode.divisor])]
    for row in mode.rows:
        lines.append("row " + show_words(row))
    for place, numbers in enumerate(mode.nexts):
        lines.append(show_words(["next"] + numbers + [mode.steer[place]] + mode.push[place] + [mode.add[place]]))
    return lines


def split_text(text, separator):
    if not isinstance(text, str):
        raise NoText("this is no text")
    return text.split(separator)


def read_number(text):
    figures = text[1:] if text.startswith("-") else text
    if not are_figures(figures) or text == "-0":
        raise NoText("this is no number")
    return int(text)


def are_figures(text):
    if len(text) < 1 or len(text) > MOST_FIGURES or not all([sign in FIGURES for sign in text]):
        return False
    return text == "0" or not text.startswith("0")


def read_numbers(words, count):
    if len(words) != count:
        raise NoText("there are too few numbers, or too many")
    return [read_number(word) for word in words]


def read_fraction(text):
    parts = split_text(text, "/")
    if len(parts) == 1:
        return fraction(read_number(text))
    numbers = read_numbers(parts, 2)
    value = (numbers[0], numbers[1])
    if numbers[1] == 1 or not is_fraction(value):
        raise NoText("this is no fraction in lowest terms")
    return value


def read_tuples(text, count):
    return [tuple(read_numbers(part.split(" "), count)) for part in split_text(text, ROW_BREAK)]


def read_room(text, many):
    if text == NO_ROWS:
        return []
    return read_tuples(text, many + 1)


def read_point(text, many):
    return read_fractions(split_text(text, " "), many)


def read_fractions(words, count):
    if len(words) != count:
        raise NoText("there are too few fractions, or too many")
    return [read_fraction(word) for word in words]


def read_table(text):
    # Its lists may be of any lengths: whoever uses the table looks at that.
    lines = [part.split(" ") for part in split_text(text, ROW_BREAK)]
    return [read_numbers(words, len(words)) for words in lines]


def read_rule(text, many):
    # From the last word to the first, so that all that a word asks for behind it is read already, the nearest last.
    behind = []
    for word in reversed(split_text(text, " ")):
        if word == "straight":
            behind = straight_ahead(behind, many)
        elif word == "stopped":
            behind = stopped_ahead(behind)
        elif word == "parted":
            behind = parted_ahead(behind, many)
        else:
            behind.append(read_number(word))
    if len(behind) != 1:
        raise NoText("there are words too few or too many for a rule")
    return ask_rule(behind[0])


def taken(behind, count):
    if len(behind) < count:
        raise NoText("there are too few words behind")
    return [behind[len(behind) - 1 - place] for place in range(count)]


def ask_number(value):
    if isinstance(value, Rule):
        raise NoText("a rule stands in the place of a number")
    return value


def ask_rule(value):
    if not isinstance(value, Rule):
        raise NoText("a number stands in the place of a rule")
    return value


def straight_ahead(behind, many):
    numbers = [ask_number(value) for value in taken(behind, many + 2)]
    return behind[:-many - 2] + [Straight(numbers[:many], numbers[many], numbers[many + 1])]


def stopped_ahead(behind):
    found = taken(behind, 3)
    return behind[:-3] + [Stopped(ask_rule(found[2]), ask_number(found[0]), ask_number(found[1]))]


def parted_ahead(behind, many):
    found = taken(behind, many + 3)
    row = tuple([ask_number(value) for value in found[:many + 1]])
    return behind[:-many - 3] + [Parted(row, ask_rule(found[many + 1]), ask_rule(found[many + 2]))]


def read_run(text, wide):
    if text == "":
        return []
    return [read_step(part.split(" "), wide) for part in split_text(text, STEP_BREAK)]


def read_step(words, wide):
    values = read_fractions(words[1:], wide + 1)
    return (read_number(words[0]), values[0], values[1:])


def read_claim(text, many):
    parts = split_text(text, PART_BREAK)
    words = parts[0].split(" ")
    if len(parts) != 3 or len(words) != 2:
        raise NoText("a claim has a word, a number and two rooms")
    turn = read_number(words[1])
    if turn < 0:
        raise NoText("turns are counted from 0 on")
    if words[0] == "settles":
        return Settles(read_room(parts[1], many), read_room(parts[2], many), turn)
    if words[0] == "comes":
        return Comes(read_room(parts[1], many), read_room(parts[2], many), turn)
    raise NoText("there is no such claim")


def read_thing(text):
    lines = [line.split(" ") for line in split_text(text, "\n")]
    many = numbers_behind(lines[0], "numbers", 1)[0]
    head = 1
    while head < len(lines) and lines[head][0] == "push":
        head = head + 1
    pushes = [tuple(numbers_behind(words, "push", 2)) for words in lines[1:head]]
    modes = [read_mode(block, many, len(pushes)) for block in mode_blocks(lines[head:])]
    return Thing(many, pushes, modes)


def numbers_behind(words, name, count):
    if words[0] != name:
        raise NoText("another word should stand here")
    return read_numbers(words[1:], count)


def mode_blocks(lines):
    blocks = []
    for words in lines:
        if words[0] == "mode":
            blocks.append([words])
        elif len(blocks) == 0:
            raise NoText("this stands in no mode")
        else:
            blocks[-1].append(words)
    return blocks


def read_mode(block, many, wide):
    divisor = numbers_behind(block[0], "mode", 1)[0]
    head = 1
    while head < len(block) and block[head][0] == "row":
        head = head + 1
    rows = [tuple(numbers_behind(words, "row", many + 1)) for words in block[1:head]]
    # Any number may be told as many, also one below 0: then there are no numbers, so no such lines.
    if len(block) - head != max(many, 0):
        raise NoText("there are too few lines of next numbers, or too many")
    lines = [numbers_behind(words, "next", many + wide + 2) for words in block[head:]]
    return Mode(
        rows,
        [line[:many] for line in lines],
        [line[many] for line in lines],
        [line[many + 1:-1] for line in lines],
        [line[-1] for line in lines],
        divisor)
