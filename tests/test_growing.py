"""Points 3, 23 and 28: rooms of a shape, first and grown."""

import unittest
from fractions import Fraction
from math import ceil

from helpers import LONG, Case, drawn, draw_room, draw_thing, exact
from paper_helpers import around_0, between, draw_run, draw_shrinking, draw_start
from steadyhand.errors import NotClosed
from steadyhand.growing import first_room, grown, grown_once
from steadyhand.most import most
from steadyhand.reach import reach, standing
from steadyhand.rows import holds, lies_in
from steadyhand.things import Mode, Thing

LINE = [(1,), (-1,)]
EIGHT = [(1, 0), (-1, 0), (0, 1), (0, -1), (1, 1), (-1, -1), (1, -1), (-1, 1)]
HALVING = Thing(1, [(-2, 2)], [Mode([], [[1]], [0], [[1]], [0], 2)])
OPEN = Thing(1, [(-2, 2)], [Mode([], [[1]], [1], [[1]], [0], 2)])
EMPTY = [(1, 0), (-1, -1)]


def grown_by_hand(thing, room):
    """Point 28 by another way: the most over points and pushes at once."""
    told = []
    for row in room:
        bound = row[-1]
        for mode in thing.modes():
            ahead = reach(thing, mode, row[:-1] + (0,))
            found = most(standing(thing, room + mode.rows), ahead)
            if found[0] == "open":
                return None
            if found[0] == "most":
                bound = max(bound, ceil((exact(found[1]) - ahead[-1]) / Fraction(mode.divisor)))
        told.append(row[:-1] + (bound,))
    return told


class FirstRoomTest(Case):
    def test_least_whole_bounds_in_the_order_of_the_shape(self):
        self.assertEqual(first_room(between(-3, 5), LINE), [(1, 5), (-1, 3)])
        self.assertEqual(first_room(between(-3, 5), [(-1,), (2,), (1,)]), [(-1, 3), (2, 10), (1, 5)])
        square = [(1, 0, 2), (-1, 0, 3), (0, 1, 5), (0, -1, -1)]
        self.assertEqual(first_room(square, EIGHT), [
            (1, 0, 2), (-1, 0, 3), (0, 1, 5), (0, -1, -1), (1, 1, 7), (-1, -1, 2), (1, -1, 1), (-1, 1, 8)])

    def test_corners_that_are_no_whole_numbers(self):
        self.assertEqual(first_room([(2, 5), (-2, 5)], LINE), [(1, 3), (-1, 3)])
        self.assertEqual(first_room([(2, -5), (-2, 7)], LINE), [(1, -2), (-1, 4)])
        self.assertEqual(first_room([(3, 10), (-3, -10)], LINE), [(1, 4), (-1, -3)])
        self.assertEqual(first_room([(2, 5), (-2, 5)], [(2,), (4,), (-3,)]), [(2, 5), (4, 10), (-3, 8)])
        self.assertEqual(first_room([(3, 2, 1), (-1, 0, 0), (0, -1, 0)], [(1, 0), (0, 1), (1, 1), (-1, -1), (6, 6)]),
                         [(1, 0, 1), (0, 1, 1), (1, 1, 1), (-1, -1, 0), (6, 6, 3)])

    def test_none_where_start_has_no_points(self):
        self.assertIsNone(first_room(EMPTY, LINE))
        self.assertIsNone(first_room([(0, 0, -1)], EIGHT))

    def test_none_where_nothing_bounds_it(self):
        self.assertIsNone(first_room([], LINE))
        self.assertIsNone(first_room([(1, 5)], LINE))
        self.assertEqual(first_room([(1, 5)], [(1,), (3,)]), [(1, 5), (3, 15)])
        self.assertIsNone(first_room([(1, 0, 1), (-1, 0, 1)], EIGHT))
        self.assertEqual(first_room([(1, 0, 1), (-1, 0, 1)], EIGHT[:2]), [(1, 0, 1), (-1, 0, 1)])
        self.assertIsNone(first_room([(1, 0, 1), (-1, 0, 1)], [(1, 0), (1, 1)]))

    def test_three_numbers(self):
        self.assertEqual(first_room(around_0(2, 3), [(1, 1, 1), (1, -2, 0)]), [(1, 1, 1, 6), (1, -2, 0, 6)])

    def test_drawn_starts(self):
        source = drawn(71)
        seen = 0
        for turn in range(200):
            start = draw_room(source, 2, 4, source.randint(1, 6))
            room = first_room(start, EIGHT)
            found = [most(start, numbers + (0,)) for numbers in EIGHT]
            if any(told[0] != "most" for told in found):
                self.assertIsNone(room)
            else:
                seen += 1
                self.assertEqual(room, [numbers + (ceil(exact(told[1])),) for numbers, told in zip(EIGHT, found)])
        self.assertGreater(seen, 20)

    def test_long_numbers(self):
        self.assertEqual(first_room([(3, LONG), (-3, LONG)], LINE), [(1, -(-LONG // 3)), (-1, -(-LONG // 3))])

    def test_what_is_handed_in_stays(self):
        start = between(-3, 5)
        shape = list(LINE)
        first_room(start, shape).append(None)
        self.assertEqual((start, shape), (between(-3, 5), LINE))


class GrownOnceTest(Case):
    def test_least_whole_bounds_not_below_the_old_ones(self):
        self.assertEqual(grown_once(HALVING, between(-1, 1)), [(1, 2), (-1, 2)])
        self.assertEqual(grown_once(HALVING, between(-2, 2)), between(-2, 2))
        self.assertEqual(grown_once(HALVING, between(-9, 9)), between(-9, 9))
        self.assertEqual(grown_once(HALVING, between(0, 0)), between(-1, 1))
        self.assertEqual(grown_once(HALVING, between(0, 1)), [(1, 2), (-1, 1)])

    def test_divisors_adds_and_pushes(self):
        # From 0 to 4: (2 x + 3 v - 1) / 3 with v from -1 to 5 goes from -4/3 to 22/3.
        thing = Thing(1, [(-1, 5)], [Mode([], [[2]], [0], [[3]], [-1], 3)])
        self.assertEqual(grown_once(thing, between(0, 4)), between(-2, 8))
        # With the other sign it goes from -22/3 to 4/3.
        thing = Thing(1, [(-1, 5)], [Mode([], [[-2]], [0], [[-3]], [1], 3)])
        self.assertEqual(grown_once(thing, between(0, 4)), between(-8, 4))

    def test_rows_of_other_numbers_than_1(self):
        thing = Thing(1, [], [Mode([], [[1]], [0], [[]], [1], 2)])
        # 3 times (x + 1) / 2 is 33/2 at most.
        self.assertEqual(grown_once(thing, [(3, 30), (-1, 0)]), [(3, 30), (-1, 0)])
        thing = Thing(1, [], [Mode([], [[1]], [0], [[]], [7], 2)])
        self.assertEqual(grown_once(thing, [(3, 16), (-1, 0)]), [(3, 19), (-1, 0)])

    def test_several_modes_some_of_whose_rows_no_point_holds(self):
        up = Mode([(-1, -1)], [[1]], [0], [[]], [3], 1)
        never = Mode([(-1, -50)], [[100]], [0], [[]], [100], 1)
        down = Mode([(1, -2)], [[2]], [0], [[]], [0], 1)
        self.assertEqual(grown_once(Thing(1, [], [never]), between(-4, 4)), between(-4, 4))
        self.assertEqual(grown_once(Thing(1, [], [up, never]), between(-4, 4)), between(-4, 7))
        self.assertEqual(grown_once(Thing(1, [], [up, never, down]), between(-4, 4)), between(-8, 7))
        self.assertEqual(grown_once(Thing(1, [], [up]), between(-4, 0)), between(-4, 0))
        self.assertEqual(grown_once(Thing(1, [], [up]), between(-4, 1)), between(-4, 4))

    def test_modes_whose_rows_bound_what_the_room_does_not(self):
        doubling = Mode([(1, 6)], [[2]], [0], [[]], [0], 1)
        self.assertEqual(grown_once(Thing(1, [], [doubling]), [(-1, 0)]), [(-1, 0)])
        self.assertIsNone(grown_once(Thing(1, [], [Mode([], [[-2]], [0], [[]], [0], 1)]), [(-1, 0)]))
        self.assertEqual(grown_once(Thing(1, [], [Mode([(1, 6)], [[-2]], [0], [[]], [0], 1)]), [(-1, 0)]), [(-1, 12)])

    def test_none_where_nothing_bounds_it(self):
        turn = Thing(2, [], [Mode([], [[0, 1], [1, 0]], [0, 0], [[], []], [0, 0], 1)])
        self.assertIsNone(grown_once(turn, [(1, 0, 1), (-1, 0, 1)]))
        self.assertEqual(grown_once(turn, around_0(1, 2)), around_0(1, 2))

    def test_a_room_without_points_has_no_steps(self):
        self.assertEqual(grown_once(HALVING, EMPTY), EMPTY)

    def test_not_closed_ahead_of_all_else(self):
        for room in (between(-1, 1), [], [(1, 0)], EMPTY):
            self.refused(NotClosed, grown_once, OPEN, room)

    def test_drawn_things(self):
        source = drawn(72)
        seen = {True: 0, False: 0}
        for turn in range(120):
            many = source.randint(1, 3)
            thing = draw_thing(source, many, source.randint(0, 2), modes=source.randint(1, 3), size=3,
                               rows=source.randint(0, 2), closed=True)
            room = around_0(source.randint(0, 4), many)[source.randint(0, 1):]
            told = grown_once(thing, room)
            self.assertEqual(told, grown_by_hand(thing, room))
            seen[told is None] += 1
        self.assertGreater(min(seen.values()), 10)

    def test_what_is_handed_in_stays(self):
        room = between(-1, 1)
        grown_once(HALVING, room).append(None)
        self.assertEqual(room, between(-1, 1))
        kept = between(-2, 2)
        grown_once(HALVING, kept).append(None)
        self.assertEqual(kept, between(-2, 2))

    def test_long_numbers(self):
        thing = Thing(1, [(-LONG, LONG)], [Mode([], [[1]], [0], [[1]], [0], 2)])
        self.assertEqual(grown_once(thing, between(0, 0)), between(-(LONG // 2) - 1, LONG // 2 + 1))


class GrownTest(Case):
    def test_the_first_that_is_the_same_grown_once_more(self):
        # From 0: 1, then 2, and then it stays.
        start = between(0, 0)
        self.assertEqual(grown(HALVING, start, LINE, 2), between(-2, 2))
        self.assertEqual(grown(HALVING, start, LINE, 3), between(-2, 2))
        self.assertEqual(grown(HALVING, start, LINE, 50), between(-2, 2))

    def test_one_try_too_few(self):
        self.assertIsNone(grown(HALVING, between(0, 0), LINE, 1))
        self.assertIsNone(grown(HALVING, between(0, 0), LINE, 0))
        self.assertIsNone(grown(HALVING, between(-1, 1), LINE, 0))
        self.assertEqual(grown(HALVING, between(-1, 1), LINE, 1), between(-2, 2))

    def test_0_tries(self):
        self.assertEqual(grown(HALVING, between(-2, 2), LINE, 0), between(-2, 2))
        self.assertEqual(grown(HALVING, [(2, 5), (-2, 5)], LINE, 0), between(-3, 3))

    def test_it_grows_without_end(self):
        thing = Thing(1, [(0, 1)], [Mode([], [[1]], [0], [[1]], [0], 1)])
        for tries in (0, 1, 20):
            self.assertIsNone(grown(thing, between(0, 0), LINE, tries))

    def test_none_on_the_way(self):
        self.assertIsNone(grown(HALVING, EMPTY, LINE, 5))
        self.assertIsNone(grown(HALVING, [], LINE, 5))
        self.assertIsNone(grown(HALVING, [(1, 0)], LINE, 5))
        # The first room is there, but grown once there is none.
        turn = Thing(2, [], [Mode([], [[0, 1], [1, 0]], [0, 0], [[], []], [0, 0], 1)])
        self.assertIsNone(grown(turn, around_0(1, 2), [(1, 0), (-1, 0)], 5))
        self.assertIsNone(grown(turn, around_0(1, 2), [(1, 0), (-1, 0)], 0))
        self.assertEqual(grown(turn, around_0(1, 2), EIGHT[:4], 0), around_0(1, 2))

    def test_not_closed_ahead_of_all_else(self):
        for start in (between(-1, 1), [], EMPTY):
            self.refused(NotClosed, grown, OPEN, start, LINE, 3)

    def test_a_room_that_is_kept(self):
        source = drawn(73)
        seen = 0
        while seen < 40:
            many = source.randint(1, 2)
            thing = draw_shrinking(source, many)
            start = around_0(source.randint(0, 3), many)
            shape = LINE if many == 1 else EIGHT[:source.choice((4, 8))]
            room = grown(thing, start, shape, 6)
            if room is not None:
                seen += 1
                self.assertEqual([row[:-1] for row in room], shape)
                self.assertEqual(grown_once(thing, room), room)
                for other in range(4):
                    run, points = draw_run(source, thing, draw_start(source, room, many), 3)
                    self.assertTrue(all(lies_in(room, point) for point in points))
                    self.assertTrue(all(holds(row, draw_start(source, start, many)) for row in room))

    def test_by_the_rooms_on_the_way(self):
        source = drawn(74)
        for turn in range(40):
            many = source.randint(1, 2)
            thing = draw_shrinking(source, many)
            start = around_0(source.randint(0, 3), many)
            shape = LINE if many == 1 else EIGHT
            rooms = [first_room(start, shape)]
            for tries in range(5):
                rooms.append(grown_by_hand(thing, rooms[-1]))
            same = [place for place in range(5) if rooms[place] == rooms[place + 1]]
            for tries in range(5):
                wanted = rooms[same[0]] if same and same[0] <= tries else None
                self.assertEqual(grown(thing, start, shape, tries), wanted)

    def test_what_is_handed_in_stays(self):
        start = between(0, 0)
        shape = list(LINE)
        grown(HALVING, start, shape, 5).append(None)
        self.assertEqual((start, shape), (between(0, 0), LINE))


if __name__ == "__main__":
    unittest.main()
