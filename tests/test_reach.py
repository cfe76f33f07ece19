"""Points 7 and 19: standing rows, and the reach of a row."""

import itertools
import unittest

from helpers import LONG, LONG_OTHER, Case, drawn, draw_between, draw_numbers, draw_point, draw_row, draw_thing, exact
from steadyhand.reach import reach, standing
from steadyhand.rows import along, holds
from steadyhand.runs import point_behind
from steadyhand.things import Mode, Thing


def thing_of(many, pushes):
    mode = Mode([], [[1] * many] * many, [0] * many, [[1] * len(pushes)] * many, [0] * many, 1)
    return Thing(many, pushes, [mode])


class StandingTest(Case):
    def test_rows_widened_and_two_for_each_push(self):
        thing = thing_of(2, [(-3, 5), (7, 8)])
        self.assertEqual(standing(thing, [(1, 2, 3), (4, 5, 6)]), [
            (1, 2, 0, 0, 3), (4, 5, 0, 0, 6),
            (0, 0, 1, 0, 5), (0, 0, -1, 0, 3), (0, 0, 0, 1, 8), (0, 0, 0, -1, -7)])

    def test_of_no_rows(self):
        self.assertEqual(standing(thing_of(1, [(-3, 5)]), []), [(0, 1, 5), (0, -1, 3)])

    def test_of_no_pushes(self):
        rows = [(1, 2, 3), (4, 5, 6)]
        made = standing(thing_of(2, []), rows)
        self.assertEqual(made, rows)
        made.append((0, 0, 0))
        made[0] = None
        self.assertEqual(rows, [(1, 2, 3), (4, 5, 6)])
        self.assertEqual(standing(thing_of(3, []), []), [])

    def test_nine_numbers(self):
        pushes = [(place, place + 10) for place in range(6)]
        made = standing(thing_of(3, pushes), [(1, 2, 3, 4)])
        self.assertEqual(made[0], (1, 2, 3, 0, 0, 0, 0, 0, 0, 4))
        self.assertEqual(len(made), 13)
        for place in range(6):
            upper = [0] * 10
            lower = [0] * 10
            upper[3 + place] = 1
            lower[3 + place] = -1
            upper[-1] = place + 10
            lower[-1] = -place
            self.assertEqual(made[1 + 2 * place], tuple(upper))
            self.assertEqual(made[2 + 2 * place], tuple(lower))

    def test_they_hold_just_where_the_rows_and_the_pushes_do(self):
        thing = thing_of(1, [(-1, 2)])
        rows = standing(thing, [(2, 3)])
        values = ((1, 1), (3, 2), (5, 3), (-4, 1))
        for value, push in itertools.product(values, ((-1, 1), (2, 1), (-3, 2), (5, 2), (0, 1))):
            wanted = 2 * exact(value) <= 3 and -1 <= exact(push) <= 2
            self.assertIs(all(holds(row, [value, push]) for row in rows), wanted)

    def test_long_numbers(self):
        self.assertEqual(standing(thing_of(1, [(-LONG, LONG_OTHER)]), [(LONG, -LONG)]),
                         [(LONG, 0, -LONG), (0, 1, LONG_OTHER), (0, -1, LONG)])


class ReachTest(Case):
    def test_as_written(self):
        mode = Mode([], [[1, 2], [3, 4]], [0, 0], [[5], [6]], [7, 8], 9)
        thing = Thing(2, [(0, 1)], [mode])
        self.assertEqual(reach(thing, mode, (10, 100, 1000)), (310, 420, 650, 9000 - 870))
        self.assertEqual(reach(thing, mode, (1, 0, 0)), (1, 2, 5, -7))
        self.assertEqual(reach(thing, mode, (0, -1, 2)), (-3, -4, -6, 26))
        self.assertIs(type(reach(thing, mode, (1, 0, 0))), tuple)

    def test_no_pushes_and_other_modes(self):
        one = Mode([(1, 1)], [[2]], [0], [[]], [-3], 1)
        other = Mode([], [[-5]], [0], [[]], [4], 6)
        thing = Thing(1, [], [one, other])
        self.assertEqual(reach(thing, thing.modes()[0], (7, 11)), (14, 32))
        self.assertEqual(reach(thing, thing.modes()[1], (7, 11)), (-35, 38))

    def test_a_row_of_noughts(self):
        mode = Mode([], [[1, 2], [3, 4]], [0, 0], [[5], [6]], [7, 8], 9)
        thing = Thing(2, [(0, 1)], [mode])
        self.assertEqual(reach(thing, mode, (0, 0, -2)), (0, 0, 0, -18))

    def test_held_just_where_the_point_behind_holds_the_row(self):
        source = drawn(31)
        seen = {True: 0, False: 0}
        for turn in range(400):
            many = source.randint(1, 3)
            thing = draw_thing(source, many, source.randint(0, 3), size=3, closed=True)
            mode = thing.modes()[0]
            row = draw_row(source, many, 3)
            ahead = reach(thing, mode, row)
            self.assertEqual(len(ahead), many + len(thing.pushes()) + 1)
            for other in range(5):
                point = draw_point(source, many, 3)
                pushes = [draw_between(source, low - 1, high + 1) for low, high in thing.pushes()]
                wanted = holds(row, point_behind(mode, point, (0, 1), pushes))
                self.assertIs(holds(ahead, point + pushes), wanted)
                seen[wanted] += 1
        self.assertGreater(min(seen.values()), 200)

    def test_on_the_bound_too(self):
        source = drawn(32)
        seen = 0
        for turn in range(400):
            many = source.randint(1, 2)
            thing = draw_thing(source, many, 1, size=3, closed=True)
            mode = thing.modes()[0]
            numbers = tuple(draw_numbers(source, many, 2))
            point = draw_point(source, many, 2)
            pushes = [draw_between(source, low, high) for low, high in thing.pushes()]
            value = along(numbers + (0,), point_behind(mode, point, (0, 1), pushes))
            if value[1] == 1:
                seen += 1
                self.assertTrue(holds(reach(thing, mode, numbers + (value[0],)), point + pushes))
                self.assertFalse(holds(reach(thing, mode, numbers + (value[0] - 1,)), point + pushes))
        self.assertGreater(seen, 50)

    def test_long_numbers(self):
        mode = Mode([], [[LONG]], [0], [[LONG_OTHER]], [-LONG], LONG)
        thing = Thing(1, [(0, LONG)], [mode])
        self.assertEqual(reach(thing, mode, (LONG, LONG_OTHER)),
                         (LONG * LONG, LONG * LONG_OTHER, LONG * LONG_OTHER + LONG * LONG))

    def test_what_is_handed_in_stays(self):
        mode = Mode([], [[1]], [0], [[2]], [3], 4)
        thing = Thing(1, [(0, 1)], [mode])
        rows = [(1, 2)]
        standing(thing, rows)
        reach(thing, mode, rows[0])
        self.assertEqual(rows, [(1, 2)])
        self.assertEqual((mode.nexts, mode.push, mode.add), ([[1]], [[2]], [3]))


if __name__ == "__main__":
    unittest.main()
