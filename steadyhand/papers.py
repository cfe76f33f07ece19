"""Papers, which show by sums of rows alone that a claim holds; and the look at them."""

from steadyhand.claims import Comes, Settles
from steadyhand.fractions import is_whole
from steadyhand.reach import reach, standing
from steadyhand.rows import is_room, is_row, other_side
from steadyhand.shares import is_from_0_on, shows
from steadyhand.tables import copied, mixed
from steadyhand.things import ask_closed


class Paper:
    pass


class Rooms(Paper):
    def __init__(self, rooms, back, starts, steps, stays):
        self.rooms = copied(rooms)
        self.back = back
        self.starts = copied(starts)
        self.steps = copied(steps)
        self.stays = copied(stays)


class Falls(Paper):
    def __init__(self, room, starts, steps, measure, step, top, falls, floors, tops):
        self.room = copied(room)
        self.starts = copied(starts)
        self.steps = copied(steps)
        self.measure = copied(measure)
        self.step = step
        self.top = top
        self.falls = copied(falls)
        self.floors = copied(floors)
        self.tops = copied(tops)


def lets_by(thing, claim, paper):
    ask_closed(thing)
    if isinstance(claim, Settles) and isinstance(paper, Rooms):
        return lets_rooms_by(thing, claim, paper)
    if isinstance(claim, Comes) and isinstance(paper, Falls):
        return lets_fall_by(thing, claim, paper)
    return False


def is_list_of(value, count):
    return isinstance(value, list) and len(value) == count


def each_shown(rows, targets, shares):
    if not is_list_of(shares, len(targets)):
        return False
    return all([shows(rows, target, part) for target, part in zip(targets, shares)])


def settles_over(claim, many):
    return is_room(claim.start, many) and is_room(claim.rows, many) and is_from_0_on(claim.turn)


def comes_over(claim, many):
    return is_room(claim.start, many) and is_room(claim.goal, many) and is_from_0_on(claim.turns)


def lets_rooms_by(thing, claim, paper):
    if not settles_over(claim, thing.many) or not are_rooms(paper.rooms, thing.many):
        return False
    # That back is a place of rooms asks for one room at least, too.
    if not is_from_0_on(paper.back) or paper.back >= len(paper.rooms):
        return False
    if not each_shown(claim.start, paper.rooms[0], paper.starts):
        return False
    return rooms_follow(thing, paper) and rooms_stay(claim, paper)


def are_rooms(value, many):
    return isinstance(value, list) and all([is_room(room, many) for room in value])


def rooms_follow(thing, paper):
    if not is_list_of(paper.steps, len(paper.rooms)):
        return False
    following = paper.rooms[1:] + [paper.rooms[paper.back]]
    return all([leads(thing, room, behind, steps)
                for room, behind, steps in zip(paper.rooms, following, paper.steps)])


def leads(thing, room, behind, steps):
    modes = thing.modes()
    if not is_list_of(steps, len(modes)):
        return False
    return all([mode_leads(thing, mode, room, behind, shares) for mode, shares in zip(modes, steps)])


def mode_leads(thing, mode, room, behind, shares):
    return each_shown(standing(thing, room + mode.rows), [reach(thing, mode, row) for row in behind], shares)


def rooms_stay(claim, paper):
    if not is_list_of(paper.stays, len(paper.rooms)):
        return False
    # A run comes to a room at a turn from the claim's on by its place, or by going round from back on.
    first = min(paper.back, claim.turn)
    return all([each_shown(room, claim.rows, shares)
                for room, shares in zip(paper.rooms[first:], paper.stays[first:])])


def lets_fall_by(thing, claim, paper):
    if not comes_over(claim, thing.many) or not is_room(paper.room, thing.many):
        return False
    if not is_row(paper.measure, thing.many) or not is_whole(paper.step) or not is_whole(paper.top):
        return False
    if paper.step < 1 or claim.turns * paper.step <= paper.top:
        return False
    if not each_shown(claim.start, paper.room, paper.starts):
        return False
    if not leads(thing, paper.room, paper.room, paper.steps):
        return False
    if not shows(claim.start, height_at_most(paper.measure, paper.top), paper.tops):
        return False
    return floors_hold(claim, paper) and falls_hold(thing, claim, paper)


def height_at_most(measure, top):
    return measure[:-1] + (top - measure[-1],)


def height_from_0_on(measure):
    return tuple([-number for number in measure[:-1]]) + (measure[-1],)


def fall_row(thing, mode, measure, step):
    ahead = reach(thing, mode, measure[:-1] + (0,))
    less = mixed(1, ahead[:thing.many], -mode.divisor, measure[:-1])
    return tuple(less) + ahead[thing.many:-1] + (ahead[-1] - mode.divisor * step,)


def floors_hold(claim, paper):
    if not is_list_of(paper.floors, len(claim.goal)):
        return False
    target = height_from_0_on(paper.measure)
    return all([shows(paper.room + [other_side(row)], target, shares)
                for row, shares in zip(claim.goal, paper.floors)])


def falls_hold(thing, claim, paper):
    modes = thing.modes()
    if not is_list_of(paper.falls, len(modes)):
        return False
    return all([mode_falls(thing, mode, claim, paper, shares) for mode, shares in zip(modes, paper.falls)])


def mode_falls(thing, mode, claim, paper, shares):
    if not is_list_of(shares, len(claim.goal)):
        return False
    target = fall_row(thing, mode, paper.measure, paper.step)
    rows = paper.room + mode.rows
    return all([shows(standing(thing, rows + [other_side(row)]), target, part)
                for row, part in zip(claim.goal, shares)])
