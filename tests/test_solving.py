"""Point 26: the one point along which rows come to just their bounds."""

import itertools
import unittest

from helpers import LONG, LONG_OTHER, Case, drawn, draw_row
from steadyhand.fractions import is_fraction
from steadyhand.rows import along
from steadyhand.solving import solved


def determinant(table):
    """By all orders of the places; slow, but another way than the program's."""
    total = 0
    for order in itertools.permutations(range(len(table))):
        sign = 1
        for one, other in itertools.combinations(order, 2):
            if one > other:
                sign = -sign
        for place, other in enumerate(order):
            sign *= table[place][other]
        total += sign
    return total


class SolvedTest(Case):
    def check(self, rows, wanted):
        self.assertEqual(solved(rows), wanted)
        if wanted is not None:
            self.assertIs(type(solved(rows)), list)

    def test_just_one_point(self):
        self.check([(2, 5)], [(5, 2)])
        self.check([(-3, 6)], [(-2, 1)])
        self.check([(1, 1, 3), (1, -1, 1)], [(2, 1), (1, 1)])
        self.check([(1, 2, 3), (4, 5, 6)], [(-1, 1), (2, 1)])
        self.check([(1, 0, 0, 1), (0, 1, 0, 2), (0, 0, 1, 3)], [(1, 1), (2, 1), (3, 1)])
        self.check([(2, 1, 0, 1), (0, 2, 1, 1), (1, 0, 2, 1)], [(1, 3), (1, 3), (1, 3)])

    def test_rows_that_must_change_places(self):
        self.check([(0, 1, 5), (1, 0, 7)], [(7, 1), (5, 1)])
        self.check([(0, 0, 2, 6), (0, 3, 0, 6), (5, 0, 0, 5)], [(1, 1), (2, 1), (3, 1)])
        self.check([(0, 1, 1, 3), (1, 0, 1, 4), (1, 1, 0, 5)], [(3, 1), (2, 1), (1, 1)])
        self.check([(1, 1, 1, 6), (1, 1, 2, 9), (1, 2, 1, 8)], [(1, 1), (2, 1), (3, 1)])

    def test_no_whole_numbers_in_it(self):
        self.check([(2, 0, 1), (0, 3, 1)], [(1, 2), (1, 3)])
        self.check([(2, 3, 1), (5, 7, 2)], [(-1, 1), (1, 1)])
        self.check([(2, 3, 1), (5, -7, 2)], [(13, 29), (1, 29)])

    def test_bounds_of_0(self):
        self.check([(5, 0)], [(0, 1)])
        self.check([(1, 2, 0), (3, 4, 0)], [(0, 1), (0, 1)])

    def test_none(self):
        self.check([(0, 1)], None)
        self.check([(1, 2, 3), (2, 4, 7)], None)
        self.check([(0, 0, 1), (1, 1, 1)], None)
        self.check([(1, 1, 0, 1), (0, 1, 1, 1), (1, 2, 1, 5)], None)

    def test_more_than_one(self):
        self.check([(0, 0)], None)
        self.check([(1, 2, 3), (2, 4, 6)], None)
        self.check([(1, 2, 3), (0, 0, 0)], None)
        self.check([(0, 0, 0), (0, 0, 0)], None)
        self.check([(1, 1, 0, 1), (0, 1, 1, 1), (1, 2, 1, 2)], None)
        self.check([(0, 0, 1, 1), (0, 0, 2, 2), (0, 0, 3, 3)], None)

    def test_drawn_rows(self):
        source = drawn(41)
        seen = {True: 0, False: 0}
        for turn in range(600):
            many = source.randint(1, 3)
            rows = [draw_row(source, many, source.choice((1, 2, 9))) for place in range(many)]
            point = solved(rows)
            wanted = determinant([row[:-1] for row in rows]) != 0
            self.assertIs(point is not None, wanted)
            seen[wanted] += 1
            if point is not None:
                self.assertTrue(all(is_fraction(value) for value in point))
                self.assertEqual([along(row, point) for row in rows], [(row[-1], 1) for row in rows])
        self.assertGreater(seen[False], 50)

    def test_more_numbers(self):
        source = drawn(42)
        for many in (4, 6, 9):
            rows = [draw_row(source, many, 5) for place in range(many)]
            point = solved(rows)
            self.assertEqual([along(row, point) for row in rows], [(row[-1], 1) for row in rows])

    def test_long_numbers(self):
        rows = [(LONG, LONG_OTHER, 1), (LONG_OTHER, -LONG, LONG)]
        self.assertEqual([along(row, solved(rows)) for row in rows], [(1, 1), (LONG, 1)])
        self.check([(LONG, LONG_OTHER, 1), (2 * LONG, 2 * LONG_OTHER, 2)], None)

    def test_what_is_handed_in_stays(self):
        rows = [(0, 1, 5), (1, 0, 7)]
        solved(rows)
        self.assertEqual(rows, [(0, 1, 5), (1, 0, 7)])


if __name__ == "__main__":
    unittest.main()
