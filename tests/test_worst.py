"""Points 2, 23 and 29: the worst of a plain closed thing."""

import itertools
import unittest
from fractions import Fraction

from helpers import LONG, Case, drawn, draw_box, draw_numbers, draw_room, draw_thing, exact, exact_along, exact_behind
from paper_helpers import around_0, between, draw_run, draw_start
from steadyhand.errors import NotClosed, NotPlain
from steadyhand.fractions import is_fraction
from steadyhand.most import most
from steadyhand.rows import along, lies_in
from steadyhand.runs import walked
from steadyhand.things import Mode, Thing
from steadyhand.worst import worst

HALVING = Thing(1, [(-2, 3)], [Mode([], [[1]], [0], [[1]], [0], 2)])
EMPTY = [(1, 0), (-1, -1)]


def corners(start, many):
    """The corners of a box that is told by an upper and a lower row for each number."""
    return itertools.product(*[(Fraction(start[2 * place][-1]), Fraction(-start[2 * place + 1][-1]))
                               for place in range(many)])


def worst_by_hand(thing, start, row, turns):
    """The greatest over all corners of the start and all rows of lows and highs."""
    mode = thing.modes()[0]
    points = list(corners(start, thing.many))
    for turn in range(turns):
        points = [exact_behind(mode, list(point), 0, pushes)
                  for point in points for pushes in itertools.product(*thing.pushes())]
    return max(exact_along(row[:-1], point) for point in points)


class WorstTest(Case):
    def check(self, thing, start, row, turns):
        before = list(start)
        found = worst(thing, start, row, turns)
        self.assertEqual(start, before)
        if found[0] != "most":
            self.assertEqual(len(found), 1)
            return found[0]
        self.assertEqual(len(found), 4)
        value, point, run = found[1:]
        self.assertTrue(is_fraction(value))
        self.assertTrue(lies_in(start, point))
        self.assertEqual(len(run), turns)
        for mode, steering, pushes in run:
            self.assertEqual(mode, 0)
            self.assertTrue(is_fraction(steering))
            self.assertTrue(all(push in ((low, 1), (high, 1)) for push, (low, high) in zip(pushes, thing.pushes())))
        self.assertEqual(along(row, walked(thing, point, run)[-1]), value)
        return exact(value)

    def test_turns_0(self):
        self.assertEqual(self.check(HALVING, between(-4, 8), (1, 0), 0), 8)
        self.assertEqual(self.check(HALVING, between(-4, 8), (-2, 0), 0), 8)

    def test_turns_1_and_more(self):
        self.assertEqual(self.check(HALVING, between(-4, 8), (1, 0), 1), Fraction(11, 2))
        self.assertEqual(self.check(HALVING, between(-4, 8), (-1, 0), 1), 3)
        self.assertEqual(self.check(HALVING, between(-4, 8), (1, 0), 2), Fraction(17, 4))
        self.assertEqual(self.check(HALVING, between(-4, 8), (1, 0), 20), 3 + Fraction(5, 2 ** 20))
        self.assertEqual(self.check(HALVING, between(-4, 8), (-1, 0), 20), 2 + Fraction(2, 2 ** 20))

    def test_the_bound_is_not_looked_at(self):
        for bound in (-LONG, -1, 0, 1, LONG):
            self.assertEqual(self.check(HALVING, between(-4, 8), (1, bound), 2), Fraction(17, 4))

    def test_adds_and_signs_that_turn(self):
        # -2 x + v + 5, from 0 to 1, v from -1 to 1.
        thing = Thing(1, [(-1, 1)], [Mode([], [[-2]], [0], [[1]], [5], 1)])
        self.assertEqual(self.check(thing, between(0, 1), (1, 0), 1), 6)
        self.assertEqual(self.check(thing, between(0, 1), (1, 0), 2), 2)
        self.assertEqual(self.check(thing, between(0, 1), (1, 0), 3), 22)

    def test_empty(self):
        for turns in (0, 1, 20):
            self.assertEqual(worst(HALVING, EMPTY, (1, 0), turns), ("empty",))
            self.assertEqual(worst(HALVING, EMPTY, (0, 0), turns), ("empty",))
            self.assertEqual(worst(HALVING, [(0, -1)], (1, 0), turns), ("empty",))

    def test_open(self):
        for turns in (0, 1, 20):
            self.assertEqual(worst(HALVING, [], (1, 0), turns), ("open",))
            self.assertEqual(worst(HALVING, [(-1, 0)], (1, 0), turns), ("open",))
            self.assertEqual(self.check(HALVING, [(-1, 0)], (-1, 0), turns),
                             0 if turns == 0 else 2 - Fraction(2, 2 ** turns))

    def test_open_at_first_but_not_later(self):
        # The number is forgotten in a turn.
        thing = Thing(1, [(-1, 4)], [Mode([], [[0]], [0], [[1]], [2], 3)])
        self.assertEqual(worst(thing, [], (1, 0), 0), ("open",))
        self.assertEqual(self.check(thing, [], (1, 0), 1), 2)
        self.assertEqual(self.check(thing, [(-1, -50)], (-1, 0), 5), Fraction(-1, 3))

    def test_a_row_of_noughts(self):
        self.assertEqual(self.check(HALVING, between(-4, 8), (0, 7), 3), 0)
        self.assertEqual(self.check(HALVING, [], (0, 7), 3), 0)

    def test_no_pushes(self):
        turn = Thing(2, [], [Mode([], [[0, 1], [-1, 0]], [0, 0], [[], []], [0, 0], 1)])
        start = [(1, 0, 4), (-1, 0, -1), (0, 1, 3), (0, -1, 2)]
        for turns, wanted in ((0, 4), (1, 3), (2, -1), (3, 2), (4, 4)):
            self.assertEqual(self.check(turn, start, (1, 0, 0), turns), wanted)

    def test_pushes_of_one_value(self):
        thing = Thing(1, [(3, 3)], [Mode([], [[1]], [0], [[1]], [0], 1)])
        self.assertEqual(self.check(thing, between(0, 0), (1, 0), 20), 60)

    def test_all_corners_and_pushes(self):
        source = drawn(81)
        for turn in range(120):
            many = source.randint(1, 2)
            thing = draw_thing(source, many, source.randint(0, 2), size=3, closed=True)
            start = draw_box(source, many, 4)
            row = tuple(draw_numbers(source, many, 3)) + (source.randint(-9, 9),)
            turns = source.randint(0, 3)
            self.assertEqual(self.check(thing, start, row, turns), worst_by_hand(thing, start, row, turns))

    def test_no_drawn_run_comes_to_more(self):
        source = drawn(82)
        for turn in range(60):
            thing = draw_thing(source, 3, 2, size=3, closed=True)
            start = around_0(2, 3) + draw_room(source, 3, 2, 1, low=0)
            row = tuple(draw_numbers(source, 3, 3)) + (0,)
            value = self.check(thing, start, row, 4)
            for other in range(4):
                run, points = draw_run(source, thing, draw_start(source, start, 3), 4)
                self.assertLessEqual(exact(along(row, points[-1])), value)

    def test_the_kind_is_that_of_the_row_pulled_back(self):
        source = drawn(83)
        for turn in range(100):
            thing = draw_thing(source, 2, 1, size=2, closed=True)
            start = draw_room(source, 2, 2, 3)
            row = tuple(draw_numbers(source, 2, 2)) + (0,)
            mode = thing.modes()[0]
            back = tuple(sum(row[i] * mode.nexts[i][j] for i in range(2)) for j in range(2)) + (0,)
            kind = self.check(thing, start, row, 1)
            self.assertEqual(kind if isinstance(kind, str) else "most", most(start, back)[0])

    def test_long_numbers(self):
        thing = Thing(1, [(-LONG, LONG)], [Mode([], [[LONG]], [0], [[1]], [0], LONG + 1)])
        value = self.check(thing, between(-1, 1), (LONG, 0), 2)
        first = (LONG + LONG) / Fraction(LONG + 1)
        self.assertEqual(value, LONG * (LONG * first + LONG) / Fraction(LONG + 1))

    def test_twenty_turns_of_three_numbers(self):
        mode = Mode([], [[3, 1, 0], [-1, 2, 1], [0, -2, 1]], [0, 0, 0], [[1, 0], [0, 1], [1, -1]], [1, -1, 2], 4)
        thing = Thing(3, [(-1, 2), (0, 1)], [mode])
        self.check(thing, around_0(5, 3), (1, -1, 2, 0), 20)

    def test_told_lists_are_the_askers_own(self):
        first = worst(HALVING, between(-4, 8), (1, 0), 3)
        told = worst(HALVING, between(-4, 8), (1, 0), 3)
        told[2].append(1)
        told[3][0][2].append(1)
        told[3].clear()
        self.assertEqual(worst(HALVING, between(-4, 8), (1, 0), 3), first)


class RefusedTest(Case):
    def test_not_plain(self):
        mode = HALVING.modes()[0]
        ruled = Mode([(0, 0)], [[1]], [0], [[1]], [0], 2)
        for modes in ([ruled], [mode, mode], [mode, ruled]):
            for start in (between(-1, 1), [], EMPTY):
                self.refused(NotPlain, worst, Thing(1, [(-2, 3)], modes), start, (1, 0), 1)

    def test_not_closed_ahead_of_that(self):
        free = Mode([], [[1]], [1], [[1]], [0], 2)
        ruled = Mode([(0, 0)], [[1]], [1], [[1]], [0], 2)
        for modes in ([free], [ruled], [free, free], HALVING.modes() + [ruled]):
            for start in (between(-1, 1), [], EMPTY):
                self.refused(NotClosed, worst, Thing(1, [(-2, 3)], modes), start, (1, 0), 1)


if __name__ == "__main__":
    unittest.main()
