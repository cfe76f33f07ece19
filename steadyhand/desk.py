"""The desk: it keeps a thing, is told lines, and answers each by a text."""

from steadyhand.errors import NoRow
from steadyhand.games import foe, held_rooms, holder
from steadyhand.judging import Broken, judge
from steadyhand.most import most
from steadyhand.runs import walked
from steadyhand.steering import late, rounded, steered
from steadyhand.texts import (
    PART_BREAK, STEP_BREAK, read_claim, read_fraction, read_number, read_numbers, read_point, read_room, read_rule,
    read_run, read_table, read_thing, read_tuples, show_fraction, show_point, show_room, show_run, show_thing)
from steadyhand.turning import turned

THING_HEAD = "thing\n"
DONE = "ok"
NOTHING = "none"

# Of each line but thing: how many blanks must stand in its first part, and how many parts it has. Blanks between
# numbers alone are not counted: too few of those are numbers too few within a part, which is left to the reading.
FORMS = {
    "steer": (1, 1), "late": (1, 1), "rounded": (2, 1), "turn": (1, 2), "show": (0, 1), "walk": (1, 2),
    "most": (1, 2), "judge": (1, 5), "held": (1, 2), "steering": (1, 3), "pushes": (1, 4)}


def fields_of(line, thing):
    if not isinstance(line, str):
        raise NoRow("a line is a text")
    parts = line.split(PART_BREAK)
    if line.startswith(THING_HEAD) and len(parts) == 1:
        return ["thing", line[len(THING_HEAD):]]
    name = parts[0].split(" ")[0]
    if thing is None or name not in FORMS:
        raise NoRow("there is no such line, or no thing yet")
    head = parts[0].split(" ", FORMS[name][0])
    # Where no blank is listed nothing is split off, so there the name may still have more behind it.
    if head[0] != name or len(head) != FORMS[name][0] + 1 or len(parts) != FORMS[name][1]:
        raise NoRow("a blank or a part is missing, or there are too many parts")
    return head + parts[1:]


def make_thing(thing, fields):
    return read_thing(fields[1])


def make_steered(thing, fields):
    return steered(thing, read_rule(fields[1], thing.many))


def make_late(thing, fields):
    return late(thing, read_rule(fields[1], thing.many))


def make_rounded(thing, fields):
    size = read_number(fields[1])
    return rounded(thing, read_rule(fields[2], thing.many), size)


def make_turned(thing, fields):
    there = read_table(fields[1])
    return turned(thing, there, read_table(fields[2]))


def answer_show(thing, fields):
    return show_thing(thing)


def answer_walk(thing, fields):
    point = read_point(fields[1], thing.many)
    points = walked(thing, point, read_run(fields[2], len(thing.pushes())))
    return STEP_BREAK.join([show_point(passed) for passed in points])


def answer_most(thing, fields):
    row = tuple(read_numbers(fields[1].split(" "), thing.many)) + (0,)
    told = most(read_room(fields[2], thing.many), row)
    if told[0] == "most":
        return show_fraction(told[1])
    return told[0]


def answer_judge(thing, fields):
    numbers = read_numbers(fields[1].split(" "), 2)
    shape = read_tuples(fields[2], thing.many)
    claim = read_claim(PART_BREAK.join(fields[3:]), thing.many)
    verdict = judge(thing, claim, shape, numbers[0], numbers[1])
    if isinstance(verdict, Broken):
        return PART_BREAK.join(["broken " + show_point(verdict.point), show_run(verdict.run)])
    return "held" if verdict.held() else "given up"


def game_numbers(fields):
    return read_numbers(fields[1].split(" "), 3)


def answer_held(thing, fields):
    numbers = game_numbers(fields)
    safe = read_room(fields[2], thing.many)
    return show_room(held_rooms(thing, safe, numbers[0], numbers[1], numbers[2])[-1])


def answer_steering(thing, fields):
    numbers = game_numbers(fields)
    safe = read_room(fields[2], thing.many)
    point = read_point(fields[3], thing.many)
    steering = holder(thing, safe, numbers[0], numbers[1], numbers[2], point)
    return NOTHING if steering is None else show_fraction(steering)


def answer_pushes(thing, fields):
    numbers = game_numbers(fields)
    safe = read_room(fields[2], thing.many)
    point = read_point(fields[3], thing.many)
    steering = read_fraction(fields[4])
    pushes = foe(thing, safe, numbers[0], numbers[1], numbers[2], point, steering)
    return NOTHING if pushes is None else show_point(pushes)


MAKERS = {
    "thing": make_thing, "steer": make_steered, "late": make_late, "rounded": make_rounded, "turn": make_turned}
ANSWERS = {
    "show": answer_show, "walk": answer_walk, "most": answer_most, "judge": answer_judge, "held": answer_held,
    "steering": answer_steering, "pushes": answer_pushes}


class Desk:
    def __init__(self):
        self.thing = None

    def say(self, line):
        fields = fields_of(line, self.thing)
        if fields[0] in MAKERS:
            self.thing = MAKERS[fields[0]](self.thing, fields)
            return DONE
        return ANSWERS[fields[0]](self.thing, fields)
