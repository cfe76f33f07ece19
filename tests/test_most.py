"""Points 2, 3, 24 and 25: the most of a row over a room, shares for a target, a point beyond."""

import itertools
import unittest

from helpers import LONG, LONG_OTHER, Case, drawn, draw_room, draw_row, exact
from steadyhand.fractions import is_fraction
from steadyhand.most import most, point_beyond, shares_for
from steadyhand.rows import along, holds, lies_in
from steadyhand.shares import added, shows

SQUARE = [(1, 0, 2), (-1, 0, 3), (0, 1, 5), (0, -1, -1)]


class MostCase(Case):
    def check(self, room, row):
        """What is told is as the document's own words ask; tells which of the three it is."""
        before = list(room)
        told = most(room, row)
        self.assertIs(type(told), tuple)
        if told[0] == "empty":
            self.check_empty(room, row, told)
        elif told[0] == "most":
            self.check_most(room, row, told)
        else:
            self.check_open(room, row, told)
        self.assertEqual(room, before)
        self.assertEqual(most(room, row), told)
        return told

    def check_point(self, room, row, point):
        self.assertIs(type(point), list)
        self.assertEqual(len(point), len(row) - 1)
        self.assertTrue(all(is_fraction(value) for value in point))
        self.assertTrue(lies_in(room, point))

    def check_empty(self, room, row, told):
        self.assertEqual(len(told), 2)
        self.assertEqual(told[1][0], 0)
        self.assertTrue(shows(room, row, told[1]))

    def check_most(self, room, row, told):
        self.assertEqual(len(told), 4)
        value, shares, point = told[1:]
        self.assertTrue(is_fraction(value))
        self.check_point(room, row, point)
        self.assertEqual(along(row, point), value)
        self.assertGreaterEqual(shares[0], 1)
        self.assertTrue(all(type(number) is int and number >= 0 for number in shares[1]))
        self.assertEqual(len(shares[1]), len(room))
        total = added(room, shares[1], len(row) - 1)
        self.assertEqual(total[:-1], tuple(shares[0] * number for number in row[:-1]))
        self.assertEqual(total[-1], shares[0] * exact(value))

    def check_open(self, room, row, told):
        self.assertEqual((told[0], len(told)), ("open", 3))
        point, way = told[1:]
        self.check_point(room, row, point)
        self.assertIs(type(way), list)
        self.assertEqual([type(number) for number in way], [int] * (len(row) - 1))
        for other in room:
            self.assertLessEqual(sum(one * number for one, number in zip(other[:-1], way)), 0)
        self.assertGreater(sum(one * number for one, number in zip(row[:-1], way)), 0)

    def value(self, room, row, wanted):
        told = self.check(room, row)
        self.assertEqual(told[0], "most")
        self.assertEqual(told[1], wanted)

    def kind(self, room, row, wanted):
        self.assertEqual(self.check(room, row)[0], wanted)


class MostTest(MostCase):
    def test_over_a_square(self):
        self.value(SQUARE, (1, 0, 0), (2, 1))
        self.value(SQUARE, (-1, 0, 0), (3, 1))
        self.value(SQUARE, (0, 1, 0), (5, 1))
        self.value(SQUARE, (0, -1, 0), (-1, 1))
        self.value(SQUARE, (1, 1, 0), (7, 1))
        self.value(SQUARE, (-2, -3, 0), (3, 1))

    def test_of_the_row_the_bound_is_not_looked_at(self):
        for bound in (-LONG, -1, 0, 6, 7, 8, LONG):
            self.value(SQUARE, (1, 1, bound), (7, 1))

    def test_no_whole_numbers(self):
        self.value([(2, 3)], (1, 0), (3, 2))
        self.value([(3, 2, 1), (-1, 0, 0), (0, -1, 0)], (5, 4, 0), (2, 1))
        self.value([(3, 2, 1), (2, 3, 1), (-1, 0, 0), (0, -1, 0)], (1, 1, 0), (2, 5))

    def test_slanting_rows(self):
        # A wedge with its tip at (5, 5/2).
        wedge = [(1, -2, 0), (1, 2, 10), (-1, 0, 100)]
        self.value(wedge, (1, 0, 0), (5, 1))
        self.value(wedge, (2, 1, 0), (25, 2))
        self.value(wedge, (0, 1, 0), (55, 1))

    def test_rooms_without_rows(self):
        for many in (1, 2, 3):
            self.value([], tuple([0] * many) + (4,), (0, 1))
            for place in range(many):
                row = [0] * (many + 1)
                for number in (3, -3):
                    row[place] = number
                    self.kind([], tuple(row), "open")

    def test_a_row_of_noughts(self):
        self.value(SQUARE, (0, 0, 9), (0, 1))
        self.value([(1, 1, 1)], (0, 0, -9), (0, 1))
        self.kind([(1, 0), (-1, -1)], (0, 5), "empty")

    def test_rows_of_noughts_in_the_room(self):
        self.value([(0, 0), (1, 3), (0, 7)], (1, 0), (3, 1))
        self.kind([(1, 3), (0, -1)], (1, 0), "empty")
        self.kind([(0, -1)], (0, 0), "empty")
        self.kind([(0, 0)], (1, 0), "open")

    def test_rooms_of_one_point(self):
        self.value([(1, 3), (-1, -3)], (5, 0), (15, 1))
        self.value([(2, 3), (-2, -3)], (-1, 0), (-3, 2))
        self.value([(1, 1, 3), (-1, -1, -3), (1, -1, 1), (-1, 1, -1)], (1, 0, 0), (2, 1))
        self.value([(-1, 0, 0), (0, -1, 0), (1, 1, 0)], (7, 9, 0), (0, 1))
        self.value([(1, 0, 0, 1), (0, 1, 0, 2), (0, 0, 1, 3), (-1, -1, -1, -6)], (1, 10, 100, 0), (321, 1))

    def test_rows_of_the_same_direction(self):
        self.value([(1, 5), (1, 3), (2, 7), (1, 4)], (1, 0), (3, 1))
        self.value([(2, 7), (1, 4)], (1, 0), (7, 2))
        self.value([(1, 1, 4), (2, 2, 7), (-1, 0, 0), (3, 3, 12)], (1, 1, 0), (7, 2))
        self.value([(1, 3), (1, 3), (1, 3)], (2, 0), (6, 1))

    def test_opposite_rows(self):
        self.kind([(1, 0), (-1, -1)], (1, 0), "empty")
        self.kind([(2, 1), (-3, -2)], (1, 0), "empty")
        self.value([(2, 1), (-4, -2)], (1, 0), (1, 2))

    def test_empty_rooms(self):
        self.kind([(1, 1, -1), (-1, 0, 0), (0, -1, 0)], (1, 0, 0), "empty")
        self.kind([(1, 1, 1, -1), (-1, 0, 0, 0), (0, -1, 0, 0), (0, 0, -1, 0)], (0, 0, 1, 0), "empty")
        # Any two of the three have points together.
        self.kind([(1, 0, 0), (-1, 1, 0), (0, -1, -1)], (1, 1, 0), "empty")

    def test_empty_rooms_whose_rows_bound_nothing(self):
        self.kind([(1, -1, 0), (-1, 1, -1)], (1, 1, 0), "empty")
        self.kind([(1, 0, 0, 0), (-1, 0, 0, -1)], (0, 1, 0, 0), "empty")

    def test_open(self):
        self.kind([(1, 0, 5), (0, 1, 5)], (-1, 0, 0), "open")
        self.kind([(1, -1, 0)], (1, 0, 0), "open")
        self.kind([(1, -1, 0)], (1, 1, 0), "open")
        self.kind([(1, -1, 0), (-1, 1, 0)], (1, 0, 0), "open")
        self.kind([(-1, 0, 0), (0, -1, 0)], (1, -5, 0), "open")
        self.kind([(1, 0, 0, 0), (-1, 0, 0, 0)], (9, 1, 0, 0), "open")

    def test_bounded_in_a_room_that_is_not(self):
        self.value([(1, -1, 4)], (1, -1, 0), (4, 1))
        self.value([(1, -1, 4)], (3, -3, 0), (12, 1))
        self.value([(1, 1, 1, 4), (-1, 0, 0, 0)], (1, 2, 2, 0), (8, 1))
        self.value([(-1, 0, 0), (0, -1, 0)], (-1, -5, 0), (0, 1))

    def test_three_numbers(self):
        cube = [(1, 0, 0, 1), (-1, 0, 0, 1), (0, 1, 0, 1), (0, -1, 0, 1), (0, 0, 1, 1), (0, 0, -1, 1)]
        for numbers in itertools.product((-2, 0, 1), repeat=3):
            self.value(cube, numbers + (0,), (sum(abs(number) for number in numbers), 1))
        self.value(cube + [(1, 1, 1, 1)], (1, 1, 1, 0), (1, 1))
        self.value(cube + [(2, 2, 2, 1)], (3, 3, 3, 0), (3, 2))

    def test_many_rows_through_one_point(self):
        room = [(a, b, c, 0) for a, b, c in itertools.product((-1, 0, 1, 2), repeat=3) if a + b + c > 0]
        self.value(room, (1, 1, 1, 0), (0, 1))
        self.kind(room, (-1, -1, -1, 0), "open")

    def test_long_numbers(self):
        self.value([(LONG, LONG_OTHER)], (1, 0), (LONG_OTHER, LONG))
        told = self.check([(LONG, 1, LONG_OTHER), (1, LONG, 5), (-1, -1, 0)], (LONG_OTHER, LONG, 0))
        self.assertEqual(told[0], "most")
        self.kind([(LONG, 1), (-LONG_OTHER, -LONG)], (1, 0), "empty")

    def test_drawn_rooms(self):
        source = drawn(43)
        seen = {"empty": 0, "most": 0, "open": 0}
        for turn in range(1500):
            many = source.randint(1, 3)
            size = source.choice((1, 1, 2, 5, 10 ** 30))
            room = draw_room(source, many, size, source.randint(0, 7))
            seen[self.check(room, draw_row(source, many, size))[0]] += 1
        self.assertGreater(min(seen.values()), 100)

    def test_drawn_rooms_of_many_rows(self):
        source = drawn(44)
        for turn in range(15):
            room = draw_room(source, 3, 9, 60, low=1)
            self.check(room, draw_row(source, 3, 9))

    def test_told_lists_are_the_askers_own(self):
        room = [(1, 0, 2), (0, 1, 3)]
        first = most(room, (1, 1, 0))
        told = most(room, (1, 1, 0))
        told[2][1].append(7)
        told[3].append(7)
        self.assertEqual(most(room, (1, 1, 0)), first)
        self.assertEqual(room, [(1, 0, 2), (0, 1, 3)])


class SharesForTest(MostCase):
    def check_both(self, room, target):
        """Just one of shares and a point beyond is there, and is what it should be."""
        before = list(room)
        shares = shares_for(room, target)
        point = point_beyond(room, target)
        self.assertIs(shares is None, point is not None)
        if shares is None:
            self.check_point(room, target, point)
            self.assertFalse(holds(target, point))
        else:
            self.assertTrue(shows(room, target, shares))
        self.assertEqual(room, before)
        return shares is not None

    def test_just_so_one_less_one_more(self):
        self.assertTrue(self.check_both(SQUARE, (1, 1, 7)))
        self.assertTrue(self.check_both(SQUARE, (1, 1, 8)))
        self.assertFalse(self.check_both(SQUARE, (1, 1, 6)))
        self.assertTrue(self.check_both([(2, 3)], (2, 3)))
        self.assertTrue(self.check_both([(2, 3)], (1, 2)))
        self.assertFalse(self.check_both([(2, 3)], (1, 1)))
        self.assertTrue(self.check_both([(2, -3)], (1, -1)))
        self.assertFalse(self.check_both([(2, -3)], (1, -2)))

    def test_empty_rooms(self):
        for target in ((1, 0), (0, -1), (-1, -LONG), (0, 0)):
            self.assertTrue(self.check_both([(1, 0), (-1, -1)], target))
            self.assertTrue(self.check_both([(0, -1)], target))

    def test_open_ones(self):
        for bound in (-LONG, -5, 0, 5, LONG):
            self.assertFalse(self.check_both([(-1, 0)], (1, bound)))
            self.assertFalse(self.check_both([], (2, bound)))
            self.assertFalse(self.check_both([(1, -1, 0), (-1, 1, 0)], (3, -2, bound)))
        self.assertFalse(self.check_both([(-1, -10)], (1, 5)))
        self.assertFalse(self.check_both([(-1, -10)], (1, 10)))

    def test_targets_of_noughts(self):
        self.assertTrue(self.check_both([], (0, 0)))
        self.assertTrue(self.check_both([(1, 1)], (0, 0)))
        self.assertFalse(self.check_both([], (0, -1)))
        self.assertFalse(self.check_both([(1, 1)], (0, -1)))

    def test_drawn_rooms(self):
        source = drawn(45)
        seen = {True: 0, False: 0}
        for turn in range(1200):
            many = source.randint(1, 3)
            size = source.choice((1, 2, 4, 10 ** 30))
            room = draw_room(source, many, size, source.randint(0, 6))
            seen[self.check_both(room, draw_row(source, many, size))] += 1
        self.assertGreater(min(seen.values()), 300)

    def test_standing_rows_over_more_numbers(self):
        source = drawn(46)
        for turn in range(20):
            room = draw_room(source, 6, 3, 10, low=0)
            self.check_both(room, draw_row(source, 6, 3))


if __name__ == "__main__":
    unittest.main()
