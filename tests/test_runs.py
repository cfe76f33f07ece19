"""Points 7 and 12: the point behind a turn, and runs."""

import unittest
from fractions import Fraction

from helpers import (
    LONG, LONG_OTHER, Case, drawn, draw_fraction, draw_point, draw_push_values, draw_thing, exact, exact_behind,
    exact_lies_in, exact_point, told, told_point)
from steadyhand.errors import NoRun
from steadyhand.fractions import is_fraction
from steadyhand.runs import point_behind, walked
from steadyhand.things import Mode, Thing

# Below 10: half of the sum of the number, the steering and the push.
HALVING = Thing(1, [(-1, 1)], [Mode([(1, 10)], [[1]], [1], [[1]], [0], 2)])
# Two numbers, two pushes, two modes; each part of a sum can be told from the others.
MIXED = Thing(2, [(-2, 3), (0, 1)], [
    Mode([], [[1, 2], [3, 4]], [5, 6], [[7, 8], [9, 10]], [11, 12], 1),
    Mode([(1, 0, 2), (0, -1, 0)], [[1, 0], [0, 1]], [0, 1], [[0, 0], [1, 0]], [0, 0], 3)])


class PointBehindTest(Case):
    def test_each_part_of_the_sum(self):
        mode = MIXED.modes()[0]
        none = [(0, 1), (0, 1)]
        self.assertEqual(point_behind(mode, none, (0, 1), none), [(11, 1), (12, 1)])
        self.assertEqual(point_behind(mode, [(1, 1), (0, 1)], (0, 1), none), [(12, 1), (15, 1)])
        self.assertEqual(point_behind(mode, [(0, 1), (1, 1)], (0, 1), none), [(13, 1), (16, 1)])
        self.assertEqual(point_behind(mode, none, (1, 1), none), [(16, 1), (18, 1)])
        self.assertEqual(point_behind(mode, none, (0, 1), [(1, 1), (0, 1)]), [(18, 1), (21, 1)])
        self.assertEqual(point_behind(mode, none, (0, 1), [(0, 1), (1, 1)]), [(19, 1), (22, 1)])
        self.assertEqual(point_behind(mode, [(1, 2), (1, 3)], (1, 5), [(1, 7), (1, 9)]),
                         told_point(exact_behind(mode, [Fraction(1, 2), Fraction(1, 3)], Fraction(1, 5),
                                                 [Fraction(1, 7), Fraction(1, 9)])))

    def test_all_is_divided(self):
        mode = HALVING.modes()[0]
        self.assertEqual(point_behind(mode, [(5, 1)], (1, 1), [(1, 1)]), [(7, 2)])
        self.assertEqual(point_behind(mode, [(1, 3)], (1, 2), [(-1, 6)]), [(1, 3)])
        self.assertEqual(point_behind(Mode([], [[0]], [0], [[]], [5], 10), [(9, 1)], (0, 1), []), [(1, 2)])

    def test_no_pushes(self):
        mode = Mode([], [[1, 1], [1, -1]], [1, 0], [[], []], [0, 1], 2)
        self.assertEqual(point_behind(mode, [(3, 1), (1, 2)], (1, 2), []), [(2, 1), (7, 4)])

    def test_drawn_modes(self):
        source = drawn(3)
        for turn in range(200):
            many = source.randint(1, 3)
            wide = source.randint(0, 6)
            thing = draw_thing(source, many, wide)
            point = draw_point(source, many)
            steering = draw_fraction(source)
            pushes = draw_push_values(source, thing)
            behind = point_behind(thing.modes()[0], point, steering, pushes)
            self.assertEqual(behind, told_point(exact_behind(
                thing.modes()[0], exact_point(point), exact(steering), exact_point(pushes))))
            self.assertTrue(all(is_fraction(value) for value in behind))

    def test_long_numbers(self):
        mode = Mode([], [[LONG]], [LONG_OTHER], [[-LONG]], [LONG_OTHER], LONG)
        point = [(LONG_OTHER, LONG + 1)]
        self.assertEqual(point_behind(mode, point, (1, LONG), [(LONG, 7)]), told_point(exact_behind(
            mode, exact_point(point), Fraction(1, LONG), [Fraction(LONG, 7)])))

    def test_what_is_handed_in_stays(self):
        point = [(1, 2), (3, 1)]
        pushes = [(1, 1), (0, 1)]
        point_behind(MIXED.modes()[0], point, (1, 2), pushes)
        self.assertEqual((point, pushes), ([(1, 2), (3, 1)], [(1, 1), (0, 1)]))


class WalkedTest(Case):
    def test_the_points_the_first_one_ahead_of_all(self):
        run = [(0, (1, 1), [(1, 1)]), (0, (-1, 1), [(1, 2)]), (0, (0, 1), [(-1, 1)])]
        self.assertEqual(walked(HALVING, [(5, 1)], run), [[(5, 1)], [(7, 2)], [(3, 2)], [(1, 4)]])

    def test_no_steps(self):
        self.assertEqual(walked(HALVING, [(50, 3)], []), [[(50, 3)]])

    def test_several_modes(self):
        start = [(2, 1), (0, 1)]
        self.assertEqual(walked(MIXED, start, [(1, (1, 1), [(3, 1), (1, 1)]), (0, (0, 1), [(0, 1), (0, 1)])]),
                         [start, [(2, 3), (4, 3)], [(43, 3), (58, 3)]])

    def test_drawn_runs(self):
        source = drawn(4)
        for turn in range(60):
            many = source.randint(1, 3)
            thing = draw_thing(source, many, source.randint(0, 3), modes=3, rows=0)
            point = draw_point(source, many)
            run = [(source.randint(0, 2), draw_fraction(source), draw_push_values(source, thing)) for place in range(4)]
            points = [exact_point(point)]
            for mode, steering, pushes in run:
                points.append(exact_behind(thing.modes()[mode], points[-1], exact(steering), exact_point(pushes)))
            self.assertEqual(walked(thing, point, run), [told_point(passed) for passed in points])

    def test_of_a_closed_thing_the_steering_changes_nothing(self):
        closed = Thing(1, [(0, 1)], [Mode([], [[2]], [0], [[1]], [3], 1)])
        for steering in ((0, 1), (5, 3), (-LONG, 1), None, "left"):
            self.assertEqual(walked(closed, [(1, 1)], [(0, steering, [(1, 1)])]), [[(1, 1)], [(6, 1)]])

    def test_what_is_handed_in_stays_and_what_is_told_is_the_askers_own(self):
        point = [(5, 1)]
        run = [(0, (1, 1), [(1, 1)]), (0, (-1, 1), [(1, 2)])]
        points = walked(HALVING, point, run)
        points[0][0] = (9, 1)
        points[1].append((9, 1))
        points.append([])
        self.assertEqual(point, [(5, 1)])
        self.assertEqual(run, [(0, (1, 1), [(1, 1)]), (0, (-1, 1), [(1, 2)])])
        self.assertEqual(walked(HALVING, point, run), [[(5, 1)], [(7, 2)], [(3, 2)]])
        told_points = walked(HALVING, point, [])
        point[0] = (7, 1)
        self.assertEqual(told_points, [[(5, 1)]])

    def test_long_numbers(self):
        thing = Thing(1, [(-LONG, LONG)], [Mode([(1, LONG)], [[LONG]], [1], [[1]], [1], LONG_OTHER)])
        self.assertEqual(walked(thing, [(LONG, 1)], [(0, (LONG, 3), [(-LONG, 1)])]),
                         [[(LONG, 1)], [told(Fraction(3 * LONG * LONG + LONG - 3 * LONG + 3, 3 * LONG_OTHER))]])


class NoRunTest(Case):
    def stuck(self, step, thing, point, run):
        before = ([value for value in point], [(part[0], part[1], list(part[2])) for part in run])
        error = self.refused(NoRun, walked, thing, point, run)
        self.assertEqual(error.step, step)
        self.assertEqual((point, run), before)

    def test_a_mode_that_there_is_none_of(self):
        for mode in (-1, -2, 1, 2, LONG, -LONG):
            self.stuck(0, HALVING, [(5, 1)], [(mode, (0, 1), [(0, 1)])])
        for mode in (-1, 2, 3):
            self.stuck(0, MIXED, [(0, 1), (0, 1)], [(mode, (0, 1), [(0, 1), (0, 1)])])
            self.stuck(1, MIXED, [(0, 1), (0, 1)], [(0, (0, 1), [(0, 1), (0, 1)]), (mode, (0, 1), [(0, 1), (0, 1)])])

    def test_a_row_that_does_not_hold(self):
        self.assertEqual(len(walked(HALVING, [(10, 1)], [(0, (0, 1), [(0, 1)])])), 2)
        self.stuck(0, HALVING, [(10 * LONG + 1, LONG)], [(0, (0, 1), [(0, 1)])])
        # The second of the rows, and at a later step.
        step = (1, (0, 1), [(0, 1), (0, 1)])
        self.assertEqual(len(walked(MIXED, [(2, 1), (0, 1)], [step])), 2)
        self.stuck(0, MIXED, [(2, 1), (-1, LONG)], [step])
        self.stuck(0, MIXED, [(3, 1), (0, 1)], [step])
        self.stuck(1, MIXED, [(2, 1), (0, 1)], [(0, (0, 1), [(0, 1), (0, 1)]), step])

    def test_the_first_of_several_steps_that_cannot_be_made(self):
        good = (0, (1, 1), [(1, 1)])
        bad = (0, (1, 1), [(2, 1)])
        self.stuck(2, HALVING, [(5, 1)], [good, good, bad, good, bad])
        self.stuck(3, HALVING, [(5, 1)], [good, good, good, bad])
        self.stuck(2, HALVING, [(5, 1)], [good, (0, (30, 1), [(0, 1)]), good, bad])

    def test_rows_are_asked_at_the_point_behind_the_steps_ahead(self):
        # 5 goes to (5 + 16) / 2, above 10.
        self.stuck(1, HALVING, [(5, 1)], [(0, (16, 1), [(0, 1)]), (0, (0, 1), [(0, 1)])])
        self.assertEqual(len(walked(HALVING, [(5, 1)], [(0, (15, 1), [(0, 1)]), (0, (0, 1), [(0, 1)])])), 3)

    def test_too_many_or_too_few_pushes(self):
        for pushes in ([], [(0, 1), (0, 1)], [(0, 1)] * 3):
            self.stuck(0, HALVING, [(5, 1)], [(0, (0, 1), pushes)])
        for pushes in ([], [(0, 1)], [(0, 1)] * 3):
            self.stuck(0, MIXED, [(0, 1), (0, 1)], [(0, (0, 1), pushes)])
        free = Thing(1, [], [Mode([], [[1]], [1], [[]], [0], 1)])
        self.assertEqual(walked(free, [(1, 1)], [(0, (1, 2), [])]), [[(1, 1)], [(3, 2)]])
        self.stuck(0, free, [(1, 1)], [(0, (1, 2), [(0, 1)])])

    def test_a_push_below_its_low_or_above_its_high(self):
        for push in ((-1, 1), (1, 1), (0, 1), (1, 2), (LONG - 1, LONG), (1 - LONG, LONG)):
            self.assertEqual(len(walked(HALVING, [(5, 1)], [(0, (0, 1), [push])])), 2)
        for push in ((-2, 1), (2, 1), (-3, 2), (3, 2), (LONG + 1, LONG), (-LONG - 1, LONG), (LONG, 1)):
            self.stuck(0, HALVING, [(5, 1)], [(0, (0, 1), [push])])
        for pushes in ([(-3, 1), (0, 1)], [(4, 1), (0, 1)], [(0, 1), (-1, 1)], [(0, 1), (2, 1)]):
            self.stuck(0, MIXED, [(0, 1), (0, 1)], [(0, (0, 1), pushes)])
        self.assertEqual(len(walked(MIXED, [(0, 1), (0, 1)], [(0, (0, 1), [(3, 1), (1, 1)])])), 2)
        self.assertEqual(len(walked(MIXED, [(0, 1), (0, 1)], [(0, (0, 1), [(-2, 1), (0, 1)])])), 2)

    def test_where_no_modes_rows_hold_a_run_ends(self):
        thing = Thing(1, [], [Mode([(1, 0)], [[1]], [0], [[]], [1], 1), Mode([(-1, -2)], [[1]], [0], [[]], [1], 1)])
        self.assertEqual(walked(thing, [(0, 1)], [(0, (0, 1), [])]), [[(0, 1)], [(1, 1)]])
        for mode in (0, 1):
            self.stuck(1, thing, [(0, 1)], [(0, (0, 1), []), (mode, (0, 1), [])])
        self.assertEqual(len(walked(thing, [(2, 1)], [(1, (0, 1), [])] * 5)), 6)

    def test_drawn_runs_are_refused_just_where_they_are_none(self):
        source = drawn(6)
        seen = set()
        for turn in range(300):
            thing = draw_thing(source, 2, 1, modes=2, size=2, rows=1)
            point = draw_point(source, 2, 2)
            run = [(source.randint(0, 2), draw_fraction(source, 2), [draw_fraction(source, 3)]) for place in range(3)]
            wanted = first_stuck(thing, exact_point(point), run)
            seen.add(wanted)
            if wanted is None:
                self.assertEqual(len(walked(thing, point, run)), 4)
            else:
                self.stuck(wanted, thing, point, run)
        self.assertLessEqual({0, 1, 2}, seen)


def first_stuck(thing, point, run):
    for number, (mode, steering, pushes) in enumerate(run):
        if mode >= len(thing.modes()) or not exact_lies_in(thing.modes()[mode].rows, point):
            return number
        if not all(low <= exact(push) <= high for push, (low, high) in zip(pushes, thing.pushes())):
            return number
        point = exact_behind(thing.modes()[mode], point, exact(steering), exact_point(pushes))
    return None


if __name__ == "__main__":
    unittest.main()
