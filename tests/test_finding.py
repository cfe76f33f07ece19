"""Points 3, 23 and 27: papers found for a room, and for a room and a measure."""

import unittest

from helpers import LONG, Case, drawn, draw_box, draw_room, draw_thing
from paper_helpers import around_0, between, built_fall, built_rooms, draw_run, draw_shrinking, draw_start, keeps_comes
from steadyhand.claims import Comes, Settles
from steadyhand.errors import NotClosed
from steadyhand.finding import measure_paper, room_paper
from steadyhand.papers import Falls, Rooms, lets_by
from steadyhand.rows import lies_in
from steadyhand.things import Mode, Thing

HALVING = Thing(1, [(-2, 2)], [Mode([], [[1]], [0], [[1]], [0], 2)])
OPEN = Thing(1, [(-2, 2)], [Mode([], [[1]], [1], [[1]], [0], 2)])
SINKING = Thing(1, [(0, 1)], [Mode([(-1, 0)], [[1]], [0], [[-1]], [-1], 1)])


class RoomPaperTest(Case):
    def found(self, thing, claim, room):
        before = list(room)
        paper = room_paper(thing, claim, room)
        self.assertIsInstance(paper, Rooms)
        self.assertEqual((paper.rooms, paper.back), ([before], 0))
        self.assertIs(lets_by(thing, claim, paper), True)
        self.assertEqual(room, before)
        return paper

    def test_let_by_where_told(self):
        self.found(HALVING, Settles(between(-3, 3), between(-3, 3)), between(-3, 3))
        self.found(HALVING, Settles(between(-1, 1), between(-5, 5), 3), between(-2, 2))
        self.found(HALVING, Settles(between(-3, 3), []), [])
        self.found(HALVING, Settles([], []), [])
        self.found(HALVING, Settles([(1, 0), (-1, -1)], [(0, -1)]), [(0, -1)])

    def test_none_where_there_is_none(self):
        claim = Settles(between(-3, 3), between(-3, 3))
        for room in (between(-2, 3), between(-3, 2), between(-4, 3), between(-1, 1), [], [(1, 3)], between(-30, 30)):
            self.assertIsNone(room_paper(HALVING, claim, room))
        # It does not stay: from 1 it may come to 3/2.
        self.assertIsNone(room_paper(HALVING, Settles(between(0, 0), between(-9, 9)), between(-1, 1)))
        self.found(HALVING, Settles(between(0, 0), between(-9, 9)), between(-2, 2))

    def test_what_is_no_room_or_no_claim_over_so_many_numbers(self):
        claim = Settles(between(-3, 3), between(-3, 3))
        for wrong in (None, (), [None], [(1,)], [(1, 2, 3)], [[1, 3]], [(1, True)]):
            self.assertIsNone(room_paper(HALVING, claim, wrong))
            self.assertIsNone(room_paper(HALVING, Settles(wrong, between(-3, 3)), between(-3, 3)))
            self.assertIsNone(room_paper(HALVING, Settles(between(-3, 3), wrong), between(-3, 3)))

    def test_a_claim_of_the_other_kind(self):
        self.assertIsNone(room_paper(HALVING, Comes(between(-3, 3), between(-3, 3), 3), between(-3, 3)))

    def test_not_closed_ahead_of_all_else(self):
        for claim in (Settles(between(-3, 3), between(-3, 3)), Comes(between(-3, 3), [], 0)):
            for room in (between(-3, 3), []):
                self.refused(NotClosed, room_paper, OPEN, claim, room)

    def test_just_where_each_part_can_be_shown(self):
        source = drawn(61)
        seen = {True: 0, False: 0}
        for turn in range(150):
            many = source.randint(1, 3)
            thing = draw_shrinking(source, many)
            room = around_0(source.randint(1, 4), many) + draw_room(source, many, 2, source.randint(0, 1), low=3)
            start = around_0(source.randint(0, 4), many)
            claim = Settles(start, around_0(source.randint(2, 5), many), source.randint(0, 2))
            wanted = lets_by(thing, claim, built_rooms(thing, claim, [room]))
            seen[wanted] += 1
            if wanted:
                self.found(thing, claim, room)
            else:
                self.assertIsNone(room_paper(thing, claim, room))
        self.assertGreater(min(seen.values()), 20)

    def test_drawn_things_with_more_pushes_and_modes(self):
        source = drawn(62)
        for turn in range(60):
            many = source.randint(1, 2)
            thing = draw_thing(source, many, source.randint(0, 3), modes=3, size=2, rows=1, closed=True)
            room = draw_box(source, many, 5)
            claim = Settles(room, room)
            wanted = lets_by(thing, claim, built_rooms(thing, claim, [room]))
            self.assertIs(room_paper(thing, claim, room) is not None, wanted)

    def test_modes_that_cannot_be_taken(self):
        # Its rows hold nowhere in the room, so it may lead anywhere.
        jump = Mode([(-1, -100)], [[9]], [0], [[1]], [5], 1)
        thing = Thing(1, [(-2, 2)], HALVING.modes() + [jump])
        self.found(thing, Settles(between(-3, 3), between(-3, 3)), between(-3, 3))
        self.assertIsNone(room_paper(thing, Settles(between(-3, 3), between(-200, 200)), between(-200, 200)))

    def test_six_pushes_and_three_numbers(self):
        mode = Mode([], [[1, 0, 0], [0, 1, 0], [0, 0, 1]], [0, 0, 0], [[1, -1, 0, 0, 0, 1], [0, 0, 1, 1, 0, 0],
                    [0, 0, 0, 0, -2, 1]], [0, 1, -1], 2)
        thing = Thing(3, [(-1, 1), (0, 2), (-2, 0), (0, 0), (-1, 1), (-3, 3)], [mode])
        self.found(thing, Settles(around_0(6, 3), around_0(7, 3)), around_0(6, 3))

    def test_long_numbers(self):
        thing = Thing(1, [(-LONG, LONG)], [Mode([], [[1]], [0], [[1]], [0], 2)])
        self.found(thing, Settles(between(-LONG, LONG), between(-LONG, LONG)), between(-LONG, LONG))
        self.assertIsNone(room_paper(thing, Settles([], []), between(-LONG, LONG)))
        tight = between(1 - LONG, LONG - 1)
        self.assertIsNone(room_paper(thing, Settles(tight, tight), tight))


class MeasurePaperTest(Case):
    def found(self, thing, claim, room, measure):
        before = list(room)
        paper = measure_paper(thing, claim, room, measure)
        self.assertIsInstance(paper, Falls)
        self.assertEqual((paper.room, paper.measure), (before, measure))
        self.assertIs(lets_by(thing, claim, paper), True)
        self.assertEqual(room, before)
        return paper

    def test_let_by_where_told(self):
        claim = Comes(between(0, 10), [(1, 2)], 9)
        self.found(SINKING, claim, between(-2, 10), (1, -2))
        self.found(SINKING, claim, between(-2, 10), (2, -4))
        self.found(SINKING, claim, between(-2, 12), (5, -10))
        self.found(SINKING, claim, [], (1, -2))
        self.found(SINKING, Comes(between(2, 10), between(1, 3), 14), between(-2, 10), (1, 2))

    def test_none_where_there_is_none(self):
        room = between(-2, 10)
        claim = Comes(between(0, 10), [(1, 2)], 9)
        # Too few turns, a height below 0 beside the goal, a height that grows, a room that does not hold.
        self.assertIsNone(measure_paper(SINKING, Comes(between(0, 10), [(1, 2)], 8), room, (1, -2)))
        self.assertIsNone(measure_paper(SINKING, claim, room, (1, -1)))
        self.assertIsNone(measure_paper(SINKING, claim, room, (1, -3)))
        self.assertIsNone(measure_paper(SINKING, claim, room, (-1, 20)))
        self.assertIsNone(measure_paper(SINKING, claim, room, (0, 5)))
        self.assertIsNone(measure_paper(SINKING, claim, between(-1, 10), (1, -2)))
        self.assertIsNone(measure_paper(SINKING, claim, between(-2, 9), (1, -2)))
        # Nothing bounds the height at the start.
        self.assertIsNone(measure_paper(SINKING, Comes([(-1, 0)], [(1, 2)], 9), [(-1, 2)], (1, -2)))

    def test_a_fall_that_nothing_bounds(self):
        # Doubled each turn and one added, above 0 without end: the height -x falls, and by ever more.
        thing = Thing(1, [], [Mode([], [[2]], [0], [[]], [1], 1)])
        claim = Comes([(-1, 0)], [(-1, -100)], 101)
        self.found(thing, claim, [(-1, 0)], (-1, 100))
        self.assertIsNone(measure_paper(thing, Comes([(-1, 0)], [(-1, -100)], 100), [(-1, 0)], (-1, 100)))
        self.assertIsNone(measure_paper(thing, claim, [(-1, 0)], (1, 100)))

    def test_a_height_that_rises_without_end(self):
        # Doubled each turn: the greater the number, the more it grows, and nothing bounds that.
        thing = Thing(1, [], [Mode([], [[2]], [0], [[]], [0], 1)])
        for turns in (1, 9, 1000):
            self.assertIsNone(measure_paper(thing, Comes(between(0, 5), [(1, 1)], turns), [(-1, 0)], (1, 0)))

    def test_a_step_of_0_is_none(self):
        # It stays where it is; of a start without points the top is free, but the step must be 1 or more.
        still = Thing(1, [], [Mode([], [[1]], [0], [[]], [0], 1)])
        for start in ([(1, 0), (-1, -1)], between(5, 9)):
            self.assertIsNone(measure_paper(still, Comes(start, [(1, 2)], 5), between(0, 10), (1, -2)))
        rising = Thing(1, [], [Mode([(1, 8)], [[1]], [0], [[]], [1], 1)])
        self.assertIsNone(measure_paper(rising, Comes([(0, -1)], [(1, 2)], 5), between(0, 10), (1, -2)))
        self.found(rising, Comes([(0, -1)], [(-1, -8)], 5), between(0, 10), (-1, 8))

    def test_two_numbers(self):
        # Each number goes down by one in a turn while their sum is 4 or more.
        thing = Thing(2, [(0, 1)], [Mode([(-1, -1, -4)], [[1, 0], [0, 1]], [0, 0], [[-1], [0]], [-1, -1], 1)])
        room = [(1, 0, 10), (0, 1, 10), (-1, -1, 9)]
        start = [(1, 0, 10), (0, 1, 10), (-1, -1, -4)]
        # The tops are 15, 45 and 37; the steps 2, 6 and 3.
        for measure, turns in (((1, 1, -5), 8), ((3, 3, -15), 8), ((2, 1, 7), 13)):
            self.found(thing, Comes(start, [(1, 1, 5)], turns), room, measure)
            self.assertIsNone(measure_paper(thing, Comes(start, [(1, 1, 5)], turns - 1), room, measure))
        # At (10, -5), beside the goal, the height is below 0.
        self.assertIsNone(measure_paper(thing, Comes(start, [(1, 1, 5)], 99), room, (1, 2, -1)))

    def test_what_is_no_room_measure_or_claim_over_so_many_numbers(self):
        claim = Comes(between(0, 10), [(1, 2)], 9)
        for wrong in (None, (), [None], [(1,)], [(1, 2, 3)], [[1, 3]], [(1, True)]):
            self.assertIsNone(measure_paper(SINKING, claim, wrong, (1, -2)))
            self.assertIsNone(measure_paper(SINKING, Comes(wrong, [(1, 2)], 9), between(-2, 10), (1, -2)))
            self.assertIsNone(measure_paper(SINKING, Comes(between(0, 10), wrong, 9), between(-2, 10), (1, -2)))
        for wrong in (None, (), (1,), (1, -2, 0), [1, -2], (1, True)):
            self.assertIsNone(measure_paper(SINKING, claim, between(-2, 10), wrong))

    def test_a_step_of_more_than_1(self):
        # It falls by 5 each turn; from 20 it is below 0 in the fifth.
        thing = Thing(1, [], [Mode([(-1, 0)], [[3]], [0], [[]], [-15], 3)])
        room = between(-5, 20)
        paper = self.found(thing, Comes(between(0, 20), [(1, 0)], 5), room, (1, 0))
        self.assertTrue(5 * paper.step > paper.top >= 20)
        self.assertIsNone(measure_paper(thing, Comes(between(0, 20), [(1, 0)], 4), room, (1, 0)))

    def test_a_goal_without_rows(self):
        self.found(SINKING, Comes(between(0, 10), [], 1), between(-2, 10), (1, 0))
        self.found(SINKING, Comes(between(0, 10), [], 1), between(-2, 10), (-7, 3))
        self.found(SINKING, Comes(between(0, 10), [], 0), between(-2, 10), (1, -11))
        self.assertIsNone(measure_paper(SINKING, Comes(between(0, 10), [], 0), between(-2, 10), (1, -10)))

    def test_turns_0(self):
        # The start must lie in the goal, and off its edge: there the height is 0 or more.
        room = between(-2, 10)
        self.found(SINKING, Comes(between(0, 1), [(1, 2)], 0), room, (1, -2))
        self.assertIsNone(measure_paper(SINKING, Comes(between(0, 2), [(1, 2)], 0), room, (1, -2)))
        self.assertIsNone(measure_paper(SINKING, Comes(between(0, 3), [(1, 2)], 0), room, (1, -2)))

    def test_a_start_without_points(self):
        empty = [(1, 0), (-1, -1)]
        for turns in (0, 1, 5):
            self.found(SINKING, Comes(empty, [(1, 2)], turns), between(-2, 10), (1, -2))
            self.found(SINKING, Comes(empty, [], turns), between(-2, 10), (1, -2))

    def test_a_room_that_no_mode_can_be_taken_in(self):
        # Beside the goal there is no step at all, so that every fall is shown.
        stuck = Thing(1, [], [Mode([(1, 0)], [[1]], [0], [[]], [0], 1)])
        self.found(stuck, Comes(between(1, 10), [(1, 0)], 1), between(1, 10), (1, 0))
        self.found(stuck, Comes(between(1, 10), [(1, 0)], 1), between(1, 10), (5, 7))

    def test_a_claim_of_the_other_kind(self):
        self.assertIsNone(measure_paper(SINKING, Settles(between(0, 10), [(1, 20)], 9), between(-2, 10), (1, -2)))

    def test_not_closed_ahead_of_all_else(self):
        for claim in (Settles(between(-3, 3), between(-3, 3)), Comes(between(-3, 3), [], 0)):
            self.refused(NotClosed, measure_paper, OPEN, claim, between(-3, 3), (1, 0))

    def test_just_where_some_step_and_top_can_be_shown(self):
        source = drawn(63)
        seen = {True: 0, False: 0}
        for turn in range(80):
            many = source.randint(1, 2)
            thing = draw_shrinking(source, many)
            room = around_0(source.randint(4, 8), many)
            claim = Comes(around_0(source.randint(1, 5), many), around_0(source.randint(1, 4), many)[:1],
                          source.randint(2, 8))
            measure = tuple(source.randint(-1, 1) if place else 2 for place in range(many)) + (-source.randint(-1, 3),)
            wanted = any(lets_by(thing, claim, built_fall(thing, claim, room, measure, step, top))
                         for step in (1, 2, 3) for top in range(-3, 16))
            seen[wanted] += 1
            if wanted:
                paper = self.found(thing, claim, room, measure)
                for other in range(3):
                    run, points = draw_run(source, thing, draw_start(source, claim.start, many), claim.turns)
                    self.assertTrue(keeps_comes(claim, points))
                    self.assertTrue(lies_in(paper.room, points[-1]))
            else:
                self.assertIsNone(measure_paper(thing, claim, room, measure))
        self.assertGreater(min(seen.values()), 10)

    def test_long_numbers(self):
        thing = Thing(1, [(0, LONG)], [Mode([(-1, 0)], [[1]], [0], [[-1]], [-LONG], 1)])
        claim = Comes(between(0, 10 * LONG), [(1, 2 * LONG)], 9)
        self.found(thing, claim, between(-2 * LONG, 10 * LONG), (1, -2 * LONG))
        short = Comes(claim.start, claim.goal, 8)
        self.assertIsNone(measure_paper(thing, short, between(-2 * LONG, 10 * LONG), (1, -2 * LONG)))


if __name__ == "__main__":
    unittest.main()
