"""Points 2, 3 and 35: points, rows, things, runs and papers turned."""

import unittest

from helpers import (
    LONG, NOT_LISTS, NOT_WHOLE, Case, all_fields, drawn, draw_fraction, draw_point, draw_push_values, draw_room,
    draw_row, draw_thing, whole_thing)
from paper_helpers import around_0, built_fall, built_rooms, draw_shrinking
from steadyhand.claims import Comes, Settles
from steadyhand.errors import BadTurn
from steadyhand.papers import Falls, Rooms, lets_by
from steadyhand.rows import along, holds
from steadyhand.runs import walked
from steadyhand.things import Mode, Thing
from steadyhand.turning import turned, turned_point, turned_row

THERE = [[1, 2], [1, 3]]
BACK = [[3, -2], [-1, 1]]
ONE = Mode([(1, 2, 3), (0, -1, 5)], [[4, 5], [6, 7]], [8, 9], [[10], [11]], [12, 13], 14)
THING = Thing(2, [(-5, 6)], [ONE])


def still(many):
    return [[1 if other == place else 0 for other in range(many)] for place in range(many)]


def draw_turn(source, many):
    """There and back, of some steps that add one number's list to another's, or change a sign."""
    there = still(many)
    back = still(many)
    for turn in range(4):
        one = source.randrange(many)
        other = source.randrange(many)
        factor = source.choice((-2, -1, 1, 2))
        if one == other:
            there[one] = [-number for number in there[one]]
            for line in back:
                line[one] = -line[one]
        else:
            there[one] = [number + factor * more for number, more in zip(there[one], there[other])]
            for line in back:
                line[other] -= factor * line[one]
    return there, back


def turned_room(back, room):
    return [turned_row(back, row) for row in room]


def turned_claim(back, claim):
    if isinstance(claim, Settles):
        return Settles(turned_room(back, claim.start), turned_room(back, claim.rows), claim.turn)
    return Comes(turned_room(back, claim.start), turned_room(back, claim.goal), claim.turns)


def turned_paper(back, paper):
    if isinstance(paper, Rooms):
        rooms = [turned_room(back, room) for room in paper.rooms]
        return Rooms(rooms, paper.back, paper.starts, paper.steps, paper.stays)
    return Falls(turned_room(back, paper.room), paper.starts, paper.steps, turned_row(back, paper.measure), paper.step,
                 paper.top, paper.falls, paper.floors, paper.tops)


class PointsAndRowsTest(Case):
    def test_points(self):
        self.assertEqual(turned_point(THERE, [(1, 2), (1, 3)]), [(7, 6), (3, 2)])
        self.assertEqual(turned_point([[-1]], [(5, 2)]), [(-5, 2)])
        self.assertEqual(turned_point([[0, 0, 1], [1, 0, 0], [0, 1, 0]], [(1, 1), (2, 1), (3, 1)]),
                         [(3, 1), (1, 1), (2, 1)])

    def test_rows(self):
        self.assertEqual(turned_row(BACK, (1, 0, 7)), (3, -2, 7))
        self.assertEqual(turned_row(BACK, (0, 1, -7)), (-1, 1, -7))
        self.assertEqual(turned_row(BACK, (10, 100, 3)), (-70, 80, 3))
        self.assertEqual(turned_row([[-1]], (4, 5)), (-4, 5))
        self.assertIs(type(turned_row(BACK, (1, 0, 7))), tuple)

    def test_what_a_row_comes_to_stays(self):
        source = drawn(111)
        for turn in range(100):
            many = source.randint(1, 3)
            there, back = draw_turn(source, many)
            row = draw_row(source, many, 5)
            point = draw_point(source, many)
            self.assertEqual(along(turned_row(back, row), turned_point(there, point)), along(row, point))
            self.assertIs(holds(turned_row(back, row), turned_point(there, point)), holds(row, point))
            self.assertEqual(turned_point(back, turned_point(there, point)), point)
            self.assertEqual(turned_row(there, turned_row(back, row)), row)

    def test_long_numbers(self):
        self.assertEqual(turned_point([[1, LONG], [0, 1]], [(1, LONG), (1, 1)]), [(LONG * LONG + 1, LONG), (1, 1)])
        self.assertEqual(turned_row([[1, -LONG], [0, 1]], (LONG, 1, 2)), (LONG, 1 - LONG * LONG, 2))

    def test_what_is_handed_in_stays(self):
        point = [(1, 2), (1, 3)]
        there = [[1, 2], [1, 3]]
        turned_point(there, point)
        turned_row(there, (1, 2, 3))
        self.assertEqual((point, there), ([(1, 2), (1, 3)], THERE))


class TurnedTest(Case):
    def test_as_written(self):
        made = turned(THING, THERE, BACK)
        self.assertEqual((made.many, made.pushes()), (2, [(-5, 6)]))
        # There times nexts is [[16, 19], [22, 26]].
        self.assertEqual(all_fields(made), [(
            [(1, 0, 3), (1, -1, 5)], [[16 * 3 - 19, -32 + 19], [22 * 3 - 26, -44 + 26]], [26, 35], [[32], [43]],
            [38, 51], 14)])

    def test_still(self):
        source = drawn(112)
        for many in (1, 2, 3):
            thing = draw_thing(source, many, 2, modes=3, rows=2)
            self.assertEqual(whole_thing(turned(thing, still(many), still(many))), whole_thing(thing))

    def test_there_and_back(self):
        source = drawn(113)
        for turn in range(40):
            many = source.randint(1, 3)
            thing = draw_thing(source, many, source.randint(0, 2), modes=2, rows=1)
            there, back = draw_turn(source, many)
            made = turned(thing, there, back)
            self.assertEqual(whole_thing(turned(made, back, there)), whole_thing(thing))

    def test_no_pushes_and_one_number(self):
        thing = Thing(1, [], [Mode([(2, 3)], [[4]], [5], [[]], [6], 7)])
        self.assertEqual(all_fields(turned(thing, [[-1]], [[-1]])), [([(-2, 3)], [[4]], [-5], [[]], [-6], 7)])

    def test_closed_and_plain_stay(self):
        source = drawn(114)
        for turn in range(20):
            thing = draw_thing(source, 2, 1, closed=turn % 2 == 0, rows=turn % 3)
            made = turned(thing, THERE, BACK)
            self.assertIs(made.is_closed(), thing.is_closed())
            self.assertIs(made.is_plain(), thing.is_plain())

    def test_the_thing_and_the_tables_stay(self):
        before = whole_thing(THING)
        there = [list(line) for line in THERE]
        back = [list(line) for line in BACK]
        turned(THING, there, back).modes()[0].nexts[0].append(1)
        self.assertEqual((whole_thing(THING), there, back), (before, THERE, BACK))

    def test_runs_turned_are_runs_of_the_turned_thing(self):
        source = drawn(115)
        for turn in range(60):
            many = source.randint(1, 3)
            thing = draw_thing(source, many, source.randint(0, 2), modes=2, size=3)
            there, back = draw_turn(source, many)
            point = draw_point(source, many)
            run = [(source.randint(0, 1), draw_fraction(source), draw_push_values(source, thing)) for step in range(3)]
            points = walked(thing, point, run)
            self.assertEqual(walked(turned(thing, there, back), turned_point(there, point), run),
                             [turned_point(there, passed) for passed in points])

    def test_papers_of_rooms_turned_are_let_by_just_where_they_were(self):
        source = drawn(116)
        seen = {True: 0, False: 0}
        for turn in range(80):
            many = source.randint(1, 2)
            thing = draw_shrinking(source, many)
            there, back = draw_turn(source, many)
            rooms = [around_0(source.randint(1, 4), many) for place in range(source.randint(1, 2))]
            claim = Settles(rooms[0], around_0(source.randint(1, 4), many), source.randint(0, 2))
            paper = built_rooms(thing, claim, rooms)
            wanted = lets_by(thing, claim, paper)
            seen[wanted] += 1
            made = turned(thing, there, back)
            self.assertIs(lets_by(made, turned_claim(back, claim), turned_paper(back, paper)), wanted)
        self.assertGreater(min(seen.values()), 10)

    def test_papers_of_a_fall_turned_are_let_by_just_where_they_were(self):
        source = drawn(117)
        seen = {True: 0, False: 0}
        for turn in range(80):
            many = source.randint(1, 2)
            thing = draw_shrinking(source, many)
            there, back = draw_turn(source, many)
            room = around_0(source.randint(4, 9), many)
            claim = Comes(room, around_0(source.randint(2, 4), many)[:1], source.randint(6, 12))
            paper = built_fall(thing, claim, room, (1,) + (0,) * (many - 1) + (0,), 1, source.randint(4, 9))
            wanted = lets_by(thing, claim, paper)
            seen[wanted] += 1
            made = turned(thing, there, back)
            self.assertIs(lets_by(made, turned_claim(back, claim), turned_paper(back, paper)), wanted)
        self.assertGreater(min(seen.values()), 10)


class BadTurnTest(Case):
    def bad(self, there, back, thing=THING):
        self.refused(BadTurn, turned, thing, there, back)

    def test_not_each_others_inverse(self):
        self.bad(THERE, THERE)
        self.bad(BACK, BACK)
        self.bad([[2, 0], [0, 2]], still(2))
        self.bad([[0, 0], [0, 0]], [[0, 0], [0, 0]])
        self.bad(still(2), [[1, 0], [1, 1]])
        self.bad(still(2), [[1, 1], [0, 1]])
        self.bad(still(2), [[-1, 0], [0, -1]])
        for place in range(2):
            for other in range(2):
                for change in (-1, 1):
                    wrong = [list(line) for line in BACK]
                    wrong[place][other] += change
                    self.bad(THERE, wrong)
        self.refused(BadTurn, turned, Thing(1, [], [Mode([], [[1]], [0], [[]], [0], 1)]), [[2]], [[1]])

    def test_other_lengths(self):
        for wrong in ([], [[1]], still(1), still(3), [[1, 0]], [[1, 0], [0, 1], [0, 0]], [[1, 0], [0]], [[1], [0, 1]],
                      [[1, 0, 0], [0, 1, 0]], [[], []]):
            self.bad(wrong, wrong)
            self.bad(wrong, still(2))
            self.bad(still(2), wrong)
        source = drawn(118)
        for many in (1, 2, 3):
            for other in {1, 2, 3} - {many}:
                self.bad(still(other), still(other), draw_thing(source, many, 0))

    def test_other_kinds(self):
        for wrong in NOT_LISTS + (((1, 0), (0, 1)), [(1, 0), (0, 1)], ([1, 0], [0, 1]), [[1, 0], None], [None, [0, 1]],
                                  [[1, 0], (0, 1)]):
            self.bad(wrong, still(2))
            self.bad(still(2), wrong)
        for value in NOT_WHOLE:
            for place in range(2):
                for other in range(2):
                    wrong = still(2)
                    wrong[place][other] = value
                    self.bad(wrong, still(2))
                    self.bad(still(2), wrong)
        self.bad([[True, False], [False, True]], [[1, 0], [0, 1]])

    def test_draw_room_is_not_changed(self):
        room = draw_room(drawn(119), 2, 3, 4)
        before = list(room)
        turned_room(BACK, room)
        self.assertEqual(room, before)


if __name__ == "__main__":
    unittest.main()
