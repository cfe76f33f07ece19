"""Points 2, 3, 21, 22 and 23: papers, and which of them are let by."""

import copy
import unittest

from helpers import LONG, NOT_LISTS, NOT_WHOLE, Case, drawn
from paper_helpers import (
    around_0, between, built_fall, built_rooms, draw_run, draw_shrinking, draw_start, keeps_comes, keeps_settles)
from steadyhand.claims import Comes, Settles
from steadyhand.errors import NotClosed
from steadyhand.papers import Falls, Paper, Rooms, lets_by
from steadyhand.things import Mode, Thing

ROOMS_PARTS = ("rooms", "back", "starts", "steps", "stays")
FALLS_PARTS = ("room", "starts", "steps", "measure", "step", "top", "falls", "floors", "tops")

# Half of the sum of the number and a push from -2 to 2.
HALVING = Thing(1, [(-2, 2)], [Mode([], [[1]], [0], [[1]], [0], 2)])
# From -10 to 10, then to 6, to 4, to 3, and then it stays.
CHAIN = [between(-10, 10), between(-6, 6), between(-4, 4), between(-3, 3)]
START = between(-10, 10)
OPEN = Thing(1, [(-2, 2)], [Mode([], [[1]], [1], [[1]], [0], 2)])
# While it is 0 or more, it falls by 1 to 2 in a turn.
SINKING = Thing(1, [(0, 1)], [Mode([(-1, 0)], [[1]], [0], [[-1]], [-1], 1)])
SINK_CLAIM = Comes(between(0, 10), [(1, 2)], 9)
SINK_ROOM = between(-2, 10)
# Either number goes down by one or two, whichever mode is taken, while their sum is 4 or more.
SINK_TWO = Thing(2, [(0, 1), (0, 1)], [
    Mode([(-1, -1, -4)], [[1, 0], [0, 1]], [0, 0], [[-1, 0], [0, 0]], [-1, 0], 1),
    Mode([(-1, -1, -4)], [[2, 0], [0, 2]], [0, 0], [[0, 0], [0, -2]], [0, -2], 2)])
SINK_TWO_CLAIM = Comes([(1, 0, 10), (0, 1, 10), (-1, -1, -4)], [(1, 1, 5)], 16)
SINK_TWO_ROOM = [(1, 0, 10), (0, 1, 10), (-1, -1, -2)]


def parts_of(paper):
    names = ROOMS_PARTS if isinstance(paper, Rooms) else FALLS_PARTS
    return {name: copy.deepcopy(getattr(paper, name)) for name in names}


def made_of(parts):
    return Rooms(**parts) if "rooms" in parts else Falls(**parts)


def changed(paper, **parts):
    told = parts_of(paper)
    told.update(parts)
    return made_of(told)


def places_within(value, path=()):
    """Each list, shares tuple and number within a part of a paper, by the path to it."""
    yield path
    if isinstance(value, list) or (isinstance(value, tuple) and len(value) == 2 and isinstance(value[1], list)):
        for place, inner in enumerate(value):
            yield from places_within(inner, path + (place,))


def at(value, path):
    for place in path:
        value = value[place]
    return value


def put(value, path, new):
    """The value with another one at the path; lists and tuples stay what they are."""
    if not path:
        return new
    told = list(value)
    told[path[0]] = put(value[path[0]], path[1:], new)
    return tuple(told) if isinstance(value, tuple) else told


def spoilt(value):
    """What could stand wrongly in the place of a value within a paper."""
    if isinstance(value, list):
        wrong = [tuple(value), None, value + [value[-1] if value else 0], {}, "x"]
        return wrong + ([value[:-1]] if value else [])
    if isinstance(value, tuple) and len(value) == 2 and isinstance(value[1], list):
        return [list(value), None, value + (0,), value[:1], (value[1], value[0]), (value[0] + 1, value[1]), 0]
    if isinstance(value, tuple):
        return [list(value), value[:-1], value + (0,), None, (True,) + value[1:], value[:-1] + ("1",)]
    return [value + 1, -1 - value, True, None, "1", [value], 1.5]


class PaperCase(Case):
    def let_by(self, thing, claim, paper):
        self.assertIs(lets_by(thing, claim, paper), True)

    def not_let_by(self, thing, claim, paper):
        self.assertIs(lets_by(thing, claim, paper), False)

    def check_spoilt(self, thing, claim, paper, name, asked=lambda path: True):
        """Whatever is changed in this part, at whatever level, the paper is no longer let by."""
        value = parts_of(paper)[name]
        seen = 0
        for path in places_within(value):
            if asked(path):
                for wrong in spoilt(at(value, path)):
                    seen += 1
                    with self.subTest(name=name, path=path, wrong=wrong):
                        self.not_let_by(thing, claim, changed(paper, **{name: put(value, path, wrong)}))
        self.assertGreater(seen, 5)


class MakingTest(PaperCase):
    def test_classes_straight_under_paper(self):
        self.assertEqual(Rooms.__bases__, (Paper,))
        self.assertEqual(Falls.__bases__, (Paper,))
        self.assertEqual(Paper.__bases__, (object,))

    def test_fields(self):
        paper = Rooms([[(1, 2)]], 0, [(1, [1])], [[[(1, [2])]]], [[(1, [3])]])
        self.assertEqual((paper.rooms, paper.back, paper.starts, paper.steps, paper.stays),
                         ([[(1, 2)]], 0, [(1, [1])], [[[(1, [2])]]], [[(1, [3])]]))
        paper = Falls([(1, 2)], [(1, [1])], [[(1, [2])]], (3, 4), 5, 6, [[(1, [7])]], [(1, [8])], (1, [9]))
        self.assertEqual([getattr(paper, name) for name in FALLS_PARTS],
                         [[(1, 2)], [(1, [1])], [[(1, [2])]], (3, 4), 5, 6, [[(1, [7])]], [(1, [8])], (1, [9])])

    def test_it_refuses_nothing(self):
        inside_itself = []
        inside_itself.append(inside_itself)
        around = []
        around.append((around,))
        for value in NOT_LISTS + NOT_WHOLE + (inside_itself, around, object(), [[[[[[[1]]]]]]]):
            self.assertIsInstance(Rooms(value, value, value, value, value), Paper)
            self.assertIsInstance(Falls(*[value] * 9), Paper)
            self.not_let_by(HALVING, Settles(START, START), Rooms(value, value, value, value, value))
            self.not_let_by(SINKING, SINK_CLAIM, Falls(*[value] * 9))

    def test_lists_handed_in_and_changed_later(self):
        claim = Settles(START, START)
        for paper, wanted in ((built_rooms(HALVING, claim, [START]), Rooms),
                              (built_fall(SINKING, SINK_CLAIM, SINK_ROOM, (1, -2), 1, 8), Falls)):
            parts = parts_of(paper)
            made = made_of(parts)
            before = parts_of(made)
            for name in parts:
                # The innermost first: once a list is changed, the paths through it lead elsewhere.
                for path in reversed(list(places_within(parts[name]))):
                    inner = at(parts[name], path)
                    if isinstance(inner, list):
                        inner.append("more")
                        inner.insert(0, None)
            self.assertIsInstance(made, wanted)
            self.assertEqual(parts_of(made), before)


class RoomsLetByTest(PaperCase):
    def test_written_by_hand(self):
        # Twice the number behind is x + v; by a share of each upper bound it is 3 + 2 at most, and 5 is below 6.
        room = between(-3, 3)
        paper = Rooms(
            [room], 0, [(1, [1, 0]), (1, [0, 1])],
            [[[(1, [1, 0, 1, 0]), (1, [0, 1, 0, 1])]]], [[(1, [1, 0]), (1, [0, 1])]])
        self.let_by(HALVING, Settles(room, room), paper)
        self.let_by(HALVING, Settles(room, room, 4), paper)
        self.let_by(HALVING, Settles(between(-3, 3), between(-4, 4)), paper)
        self.not_let_by(HALVING, Settles(room, between(-2, 3)), paper)
        self.not_let_by(HALVING, Settles(between(-3, 4), room), paper)
        # From -1 to 1 the point behind may be 3/2: these shares do not show it.
        small = between(-1, 1)
        self.not_let_by(HALVING, Settles(small, small), changed(paper, rooms=[small]))

    def test_of_several_rooms_and_turns(self):
        for back in range(4):
            for turn in range(6):
                for size in (3, 4, 5, 6, 9, 10):
                    claim = Settles(START, between(-size, size), turn)
                    paper = built_rooms(HALVING, claim, CHAIN, back)
                    first = min(back, turn)
                    wanted = first <= 3 and size >= (10, 6, 4, 3)[first]
                    with self.subTest(back=back, turn=turn, size=size):
                        self.assertIs(lets_by(HALVING, claim, paper), wanted)

    def test_a_room_that_does_not_lead_back(self):
        claim = Settles(START, START)
        # From 10 it comes to 6, so the last room leads back to any room of 6 or more.
        rooms = [between(-10, 10), between(-6, 6), between(-10, 10)]
        self.let_by(HALVING, claim, built_rooms(HALVING, claim, rooms, 0))
        self.let_by(HALVING, claim, built_rooms(HALVING, claim, rooms, 1))
        rooms = [between(-10, 10), between(-6, 6), between(-3, 9)]
        self.not_let_by(HALVING, claim, built_rooms(HALVING, claim, rooms, 0))
        self.not_let_by(HALVING, claim, built_rooms(HALVING, claim, [between(-10, 10), between(-5, 5)], 0))

    def test_several_modes_with_rows_and_without(self):
        # Above 5 it goes down, below -5 up, and between it may also drift.
        down = Mode([(-1, -5)], [[1]], [0], [[1, 0]], [-2], 1)
        up = Mode([(1, -5)], [[1]], [0], [[0, 1]], [2], 1)
        drift = Mode([(1, 5), (-1, 5)], [[1]], [0], [[1, 1]], [0], 1)
        thing = Thing(1, [(-1, 1), (-1, 1)], [down, up, drift])
        room = between(-7, 7)
        claim = Settles(between(-1, 6), room)
        self.let_by(thing, claim, built_rooms(thing, claim, [room]))
        free = Mode([], [[1]], [0], [[1, 1]], [0], 1)
        other = Thing(1, [(-1, 1), (-1, 1)], [down, up, free])
        self.not_let_by(other, claim, built_rooms(other, claim, [room]))
        # The shares of the one are none of the other: its modes have other rows.
        self.not_let_by(other, claim, built_rooms(thing, claim, [room]))

    def test_no_pushes_and_two_numbers(self):
        # A quarter turn: the square goes to itself.
        thing = Thing(2, [], [Mode([], [[0, 1], [-1, 0]], [0, 0], [[], []], [0, 0], 1)])
        square = [(1, 0, 1), (-1, 0, 1), (0, 1, 1), (0, -1, 1)]
        claim = Settles(square, [(1, 1, 2)])
        self.let_by(thing, claim, built_rooms(thing, claim, [square]))
        strip = [(1, 0, 1), (-1, 0, 1)]
        other = [(0, 1, 1), (0, -1, 1)]
        claim = Settles(strip, strip + [(1, 0, 5)])
        paper = built_rooms(thing, claim, [strip, other], 0)
        self.not_let_by(thing, claim, paper)
        self.let_by(thing, Settles(strip, []), changed(paper, stays=[[], []]))

    def test_a_room_without_rows(self):
        claim = Settles(START, [])
        self.let_by(HALVING, claim, Rooms([[]], 0, [], [[[]]], [[]]))
        self.let_by(HALVING, Settles([], []), Rooms([[]], 0, [], [[[]]], [[]]))
        self.let_by(HALVING, Settles(START, [(0, 3)]), Rooms([[]], 0, [], [[[]]], [[(1, [])]]))
        self.not_let_by(HALVING, Settles(START, START), Rooms([[]], 0, [], [[[]]], [[]]))
        # Room between two others may be without rows; from it nothing is known.
        claim = Settles(START, START, 0)
        self.not_let_by(HALVING, claim, built_rooms(HALVING, claim, [START, []], 0))

    def test_a_start_without_points(self):
        none = [(1, 0), (-1, -1)]
        claim = Settles(none, [(0, -1)])
        paper = built_rooms(HALVING, claim, [[(0, -1)]])
        self.let_by(HALVING, claim, paper)
        self.assertEqual(paper.starts[0][0], 0)

    def test_long_numbers(self):
        thing = Thing(1, [(-LONG, LONG)], [Mode([], [[1]], [0], [[1]], [0], 2)])
        room = between(-LONG, LONG)
        claim = Settles(room, room)
        self.let_by(thing, claim, built_rooms(thing, claim, [room]))
        wide = Thing(1, [(-LONG, LONG + 1)], [Mode([], [[1]], [0], [[1]], [0], 2)])
        self.not_let_by(wide, claim, built_rooms(wide, claim, [room]))
        self.not_let_by(wide, claim, built_rooms(thing, claim, [room]))


class RoomsNotLetByTest(PaperCase):
    CLAIM = Settles(START, between(-6, 6), 1)
    PAPER = built_rooms(HALVING, CLAIM, CHAIN, 2)

    def test_the_paper_itself_is_let_by(self):
        self.let_by(HALVING, self.CLAIM, self.PAPER)

    def test_whatever_is_changed_in_starts_and_steps(self):
        self.check_spoilt(HALVING, self.CLAIM, self.PAPER, "starts")
        self.check_spoilt(HALVING, self.CLAIM, self.PAPER, "steps")

    def test_whatever_is_changed_in_the_stays_that_are_asked(self):
        self.check_spoilt(HALVING, self.CLAIM, self.PAPER, "stays", lambda path: not path or path[0] >= 1)

    def test_the_stays_that_are_not_asked_may_be_anything(self):
        for value in NOT_LISTS + NOT_WHOLE + ([None], [[]], [(1, [0, 0])], object()):
            stays = parts_of(self.PAPER)["stays"]
            stays[0] = value
            self.let_by(HALVING, self.CLAIM, changed(self.PAPER, stays=stays))
            stays[1] = value
            self.not_let_by(HALVING, self.CLAIM, changed(self.PAPER, stays=stays))
        # By its turn no room is asked, but those from back on are.
        late = Settles(START, between(-4, 4), 9)
        stays = parts_of(built_rooms(HALVING, late, CHAIN, 2))["stays"]
        self.let_by(HALVING, late, changed(built_rooms(HALVING, late, CHAIN, 2), stays=[None, "x"] + stays[2:]))
        for place in (2, 3):
            other = list(stays)
            other[place] = None
            self.not_let_by(HALVING, late, changed(built_rooms(HALVING, late, CHAIN, 2), stays=other))
        # There must be as many as rooms all the same.
        self.not_let_by(HALVING, late, changed(self.PAPER, stays=stays[1:]))
        self.not_let_by(HALVING, late, changed(self.PAPER, stays=stays + [None]))

    def test_rooms_of_other_kinds(self):
        rooms = parts_of(self.PAPER)["rooms"]
        for wrong in NOT_LISTS + ([], rooms[:-1], rooms + [rooms[-1]], tuple(rooms), [tuple(room) for room in rooms]):
            self.not_let_by(HALVING, self.CLAIM, changed(self.PAPER, rooms=wrong))
        for place in range(4):
            for wrong in NOT_LISTS:
                self.not_let_by(HALVING, self.CLAIM, changed(self.PAPER, rooms=put(rooms, (place,), wrong)))
            for inner in range(2):
                for wrong in (None, 1, "12", [1, 10], (), (1,), (1, 2, 3), (True, 10), (1, True), (1, None), (1.0, 10)):
                    told = put(rooms, (place, inner), wrong)
                    self.not_let_by(HALVING, self.CLAIM, changed(self.PAPER, rooms=told))
        self.not_let_by(HALVING, self.CLAIM, Rooms([], 0, [], [], []))
        self.not_let_by(HALVING, Settles(START, []), Rooms([], 0, [], [], []))

    def test_back_that_is_no_place_of_rooms(self):
        claim = Settles(START, START)
        for back in NOT_WHOLE + (-1, -2, -4, 4, 5, LONG, -LONG, (0,), [2]):
            self.not_let_by(HALVING, claim, changed(built_rooms(HALVING, claim, CHAIN, 2), back=back))
        self.not_let_by(HALVING, claim, changed(built_rooms(HALVING, claim, [START], 0), back=False))
        self.not_let_by(HALVING, claim, changed(built_rooms(HALVING, claim, CHAIN, 1), back=True))
        for back in range(4):
            self.let_by(HALVING, claim, built_rooms(HALVING, claim, CHAIN, back))

    def test_a_claim_of_the_other_kind_or_over_other_numbers(self):
        self.not_let_by(HALVING, Comes(START, between(-6, 6), 1), self.PAPER)
        self.not_let_by(HALVING, Comes(START, [], 0), self.PAPER)
        self.not_let_by(HALVING, None, self.PAPER)
        two = [(1, 0, 10), (-1, 0, 10)]
        self.not_let_by(HALVING, Settles(two, two), self.PAPER)
        self.not_let_by(HALVING, self.CLAIM, None)
        self.not_let_by(HALVING, self.CLAIM, Paper())
        for wrong in (None, (), [None], [(1,)], [(1, 2, 3)], [[1, 10]], [(1, True)]):
            self.not_let_by(HALVING, Settles(wrong, between(-6, 6), 1), self.PAPER)
            self.not_let_by(HALVING, Settles(START, wrong, 1), self.PAPER)
        for wrong in (None, True, -1, "1", [1]):
            self.not_let_by(HALVING, Settles(START, between(-6, 6), wrong), self.PAPER)

    def test_a_paper_for_another_thing(self):
        for thing in (
                Thing(1, [(-2, 3)], [Mode([], [[1]], [0], [[1]], [0], 2)]),
                Thing(1, [(-3, 2)], [Mode([], [[1]], [0], [[1]], [0], 2)]),
                Thing(1, [(-2, 2)], [Mode([], [[1]], [0], [[1]], [1], 2)]),
                Thing(1, [(-2, 2)], [Mode([], [[1]], [0], [[1]], [0], 1)]),
                Thing(1, [(-2, 2)], [Mode([], [[1]], [0], [[2]], [0], 2)]),
                Thing(1, [(-2, 2)], [Mode([], [[1]], [0], [[1]], [0], 2)] * 2),
                Thing(1, [(-2, 2), (0, 0)], [Mode([], [[1]], [0], [[1, 0]], [0], 2)]),
                Thing(1, [(-2, 2)], [Mode([(1, 10)], [[1]], [0], [[1]], [0], 2)]),
                Thing(1, [], [Mode([], [[1]], [0], [[]], [0], 2)])):
            self.not_let_by(thing, self.CLAIM, self.PAPER)


class FallsLetByTest(PaperCase):
    def test_written_by_hand(self):
        # The height is x - 2: 8 at most at the start, 0 or more beside the goal, and it falls by 1 in a turn.
        paper = Falls(
            SINK_ROOM, [(1, [1, 0]), (1, [0, 1])],
            [[(1, [1, 0, 0, 0, 1]), (1, [0, 0, 1, 1, 0])]],
            (1, -2), 1, 8, [[(1, [0, 0, 0, 0, 0, 1])]], [(1, [0, 0, 1])], (1, [1, 0]))
        self.let_by(SINKING, SINK_CLAIM, paper)
        self.assertEqual(parts_of(built_fall(SINKING, SINK_CLAIM, SINK_ROOM, (1, -2), 1, 8)), parts_of(paper))

    def test_turns_times_step_just_more_than_top_and_just_top(self):
        for turns, wanted in ((7, False), (8, False), (9, True), (10, True), (0, False)):
            claim = Comes(between(0, 10), [(1, 2)], turns)
            paper = built_fall(SINKING, claim, SINK_ROOM, (1, -2), 1, 8)
            self.assertIs(lets_by(SINKING, claim, paper), wanted)
        claim = Comes(between(0, 10), [(1, 2)], 9)
        for top, wanted in ((7, False), (8, True), (9, False), (10, False)):
            paper = built_fall(SINKING, claim, SINK_ROOM, (1, -2), 1, top)
            self.assertIs(lets_by(SINKING, claim, paper), wanted)
        for turns, top, wanted in ((4, 8, False), (5, 8, False)):
            claim = Comes(between(0, 10), [(1, 2)], turns)
            self.assertIs(lets_by(SINKING, claim, built_fall(SINKING, claim, SINK_ROOM, (1, -2), 2, top)), wanted)
        # Counted twice as high, it falls by 2.
        for turns, wanted in ((8, False), (9, True)):
            claim = Comes(between(0, 10), [(1, 2)], turns)
            paper = built_fall(SINKING, claim, SINK_ROOM, (2, -4), 2, 16)
            self.assertIs(lets_by(SINKING, claim, paper), wanted)

    def test_a_step_of_0_or_below(self):
        still = Thing(1, [], [Mode([], [[1]], [0], [[]], [0], 1)])
        room = between(0, 10)
        for step in (0, -1, -2):
            for top in (10, 0, -1, -LONG):
                claim = Comes(room, [(1, 2)], 5)
                self.not_let_by(still, claim, built_fall(still, claim, room, (1, 0), step, top))
        claim = Comes(room, [(1, 2)], 100)
        self.not_let_by(SINKING, claim, built_fall(SINKING, claim, SINK_ROOM, (1, -2), 0, 8))
        self.let_by(SINKING, claim, built_fall(SINKING, claim, SINK_ROOM, (1, -2), 1, 8))
        # A start without points: the top may be below 0, but the step not below 1.
        empty = Comes([(1, 0), (-1, -1)], [(1, 2)], 5)
        self.let_by(SINKING, empty, built_fall(SINKING, empty, SINK_ROOM, (1, -2), 1, -1))
        self.not_let_by(SINKING, empty, built_fall(SINKING, empty, SINK_ROOM, (1, -2), 0, -1))

    def test_a_goal_of_several_rows_and_of_none(self):
        # Down by one from 0 on; the goal is from 1 to 3, and below 0 there is no step.
        goal = between(1, 3)
        claim = Comes(between(2, 10), goal, 14)
        paper = built_fall(SINKING, claim, SINK_ROOM, (1, 2), 1, 12)
        self.let_by(SINKING, claim, paper)
        self.assertEqual((len(paper.floors), len(paper.falls[0])), (2, 2))
        self.not_let_by(SINKING, Comes(between(2, 10), goal, 12), paper)
        none = Comes(between(0, 10), [], 9)
        paper = built_fall(SINKING, none, SINK_ROOM, (1, -2), 1, 8)
        self.assertEqual((paper.floors, paper.falls), ([], [[]]))
        self.let_by(SINKING, none, paper)

    def test_a_floor_that_is_not_shown(self):
        claim = Comes(between(0, 10), [(1, 2)], 9)
        self.not_let_by(SINKING, claim, built_fall(SINKING, claim, SINK_ROOM, (1, -3), 1, 7))

    def test_several_modes_pushes_and_two_numbers(self):
        claim = SINK_TWO_CLAIM
        self.let_by(SINK_TWO, claim, built_fall(SINK_TWO, claim, SINK_TWO_ROOM, (1, 1, -5), 1, 15))
        short = Comes(claim.start, claim.goal, 15)
        self.not_let_by(SINK_TWO, short, built_fall(SINK_TWO, short, SINK_TWO_ROOM, (1, 1, -5), 1, 15))

    def test_long_numbers(self):
        sinking = Thing(1, [(0, LONG)], [Mode([(-1, 0)], [[1]], [0], [[-1]], [-LONG], 1)])
        claim = Comes(between(0, 10 * LONG), [(1, 2 * LONG)], 9)
        room = between(-2 * LONG, 10 * LONG)
        self.let_by(sinking, claim, built_fall(sinking, claim, room, (1, -2 * LONG), LONG, 8 * LONG))
        self.not_let_by(sinking, claim, built_fall(sinking, claim, room, (1, -2 * LONG), LONG, 9 * LONG))


class FallsNotLetByTest(PaperCase):
    # Two rows in the goal, so that a part too many or too few shows at each level.
    CLAIM = Comes(between(2, 10), between(1, 3), 14)
    PAPER = built_fall(SINKING, CLAIM, SINK_ROOM, (1, 2), 1, 12)

    def test_whatever_is_changed_in_it(self):
        self.let_by(SINKING, self.CLAIM, self.PAPER)
        for name in ("starts", "steps", "falls", "floors", "tops", "measure"):
            self.check_spoilt(SINKING, self.CLAIM, self.PAPER, name)

    def test_whatever_is_changed_in_one_over_two_numbers(self):
        paper = built_fall(SINK_TWO, SINK_TWO_CLAIM, SINK_TWO_ROOM, (1, 1, -5), 1, 15)
        for name in ("starts", "steps", "falls", "floors", "tops", "measure"):
            self.check_spoilt(SINK_TWO, SINK_TWO_CLAIM, paper, name)

    def test_room_measure_step_and_top_of_other_kinds(self):
        for wrong in NOT_LISTS + ([None], [(1,)], [(1, 2, 3)], [[1, 10], [-1, 2]], tuple(SINK_ROOM), SINK_ROOM[:1],
                                  SINK_ROOM + SINK_ROOM[:1], [(True, 10), (-1, 2)], [(1, 10), (-1, "2")]):
            self.not_let_by(SINKING, self.CLAIM, changed(self.PAPER, room=wrong))
        for wrong in NOT_WHOLE + ((1, 2, 3), [1, 2], (True, 2), (1, True), (1, 2.0), (0, 0), {1: 2}):
            self.not_let_by(SINKING, self.CLAIM, changed(self.PAPER, measure=wrong))
        for wrong in NOT_WHOLE:
            self.not_let_by(SINKING, self.CLAIM, changed(self.PAPER, step=wrong))
            self.not_let_by(SINKING, self.CLAIM, changed(self.PAPER, top=wrong))
        for wrong in (2, 0, -1):
            self.not_let_by(SINKING, self.CLAIM, changed(self.PAPER, step=wrong))
        for wrong in (11, 14, 15, -1):
            self.not_let_by(SINKING, self.CLAIM, changed(self.PAPER, top=wrong))
        # A top of 13 is shown by the same shares, and 14 turns are still more.
        self.let_by(SINKING, self.CLAIM, changed(self.PAPER, top=13))

    def test_a_claim_or_a_thing_of_another_kind(self):
        self.not_let_by(SINKING, Settles(between(2, 10), between(1, 3), 14), self.PAPER)
        self.not_let_by(SINKING, Settles(between(2, 10), []), self.PAPER)
        self.not_let_by(SINKING, None, self.PAPER)
        slow = Thing(1, [(0, 1)], [Mode([(-1, 0)], [[1]], [0], [[-1]], [0], 1)])
        self.not_let_by(slow, self.CLAIM, self.PAPER)
        fast = Thing(1, [(0, 1)], [Mode([(-1, 0)], [[1]], [0], [[-1]], [-2], 1)])
        self.not_let_by(fast, self.CLAIM, self.PAPER)
        self.not_let_by(SINKING, Comes([(1, 0, 1)], [(1, 0, 1)], 14), self.PAPER)
        for wrong in (None, (), [None], [(1,)], [(1, 2, 3)], [[1, 10]], [(1, True)]):
            self.not_let_by(SINKING, Comes(wrong, between(1, 3), 14), self.PAPER)
            self.not_let_by(SINKING, Comes(between(2, 10), wrong, 14), self.PAPER)
        for wrong in (None, True, -1, "14", [14], 14.5):
            self.not_let_by(SINKING, Comes(between(2, 10), between(1, 3), wrong), self.PAPER)

    def test_it_is_the_height_behind_that_counts(self):
        # Halved each turn: from 8 it falls by 4, from 3 by 3/2, from 1 by a half alone.
        halving = Thing(1, [], [Mode([], [[1]], [0], [[]], [0], 2)])
        room = between(0, 8)
        for goal, wanted in ((3, True), (2, True), (1, False)):
            claim = Comes(room, [(1, goal)], 9)
            self.assertIs(lets_by(halving, claim, built_fall(halving, claim, room, (1, 0), 1, 8)), wanted)


class NotClosedTest(PaperCase):
    def test_ahead_of_all_else(self):
        settles = Settles(START, START)
        rooms = built_rooms(HALVING, settles, [START])
        falls = built_fall(SINKING, SINK_CLAIM, SINK_ROOM, (1, -2), 1, 8)
        for claim in (settles, SINK_CLAIM, None):
            for paper in (rooms, falls, None, Rooms(None, None, None, None, None), Falls(*[None] * 9)):
                self.refused(NotClosed, lets_by, OPEN, claim, paper)


class LetByHoldsTest(PaperCase):
    def test_drawn_runs_keep_a_claim_settles(self):
        source = drawn(51)
        seen = 0
        while seen < 60:
            many = source.randint(1, 2)
            thing = draw_shrinking(source, many)
            rooms = [around_0(source.randint(1, 5), many) for place in range(source.randint(1, 2))]
            claim = Settles(rooms[0], around_0(source.randint(1, 5), many), source.randint(0, 2))
            paper = built_rooms(thing, claim, rooms, source.randint(0, len(rooms) - 1))
            if lets_by(thing, claim, paper):
                seen += 1
                for turn in range(5):
                    run, points = draw_run(source, thing, draw_start(source, claim.start, many), 6)
                    self.assertTrue(keeps_settles(claim, points))

    def test_drawn_runs_keep_a_claim_comes(self):
        source = drawn(52)
        seen = 0
        while seen < 40:
            many = source.randint(1, 2)
            thing = draw_shrinking(source, many)
            room = around_0(source.randint(4, 9), many)
            claim = Comes(room, around_0(source.randint(1, 4), many)[:1], source.randint(3, 12))
            measure = tuple(1 if place == 0 else 0 for place in range(many)) + (-source.randint(0, 2),)
            paper = built_fall(thing, claim, room, measure, 1, source.randint(0, 12))
            if lets_by(thing, claim, paper):
                seen += 1
                for turn in range(5):
                    run, points = draw_run(source, thing, draw_start(source, claim.start, many), claim.turns + 1)
                    self.assertTrue(keeps_comes(claim, points))


if __name__ == "__main__":
    unittest.main()
