"""Points 2, 5 and 6: points, rows and rooms, directions and tidied rooms."""

import itertools
import unittest
from fractions import Fraction
from math import gcd

from steadyhand.fractions import is_fraction
from steadyhand.rows import along, direction, holds, lies_in, tidied

LONG = 10 ** 40


def points_over(many):
    values = ((-2, 1), (-1, 2), (0, 1), (1, 3), (3, 2))
    return [list(point) for point in itertools.product(values, repeat=many)]


def exact_sum(row, point):
    total = Fraction(0)
    for place, part in enumerate(point):
        total += row[place] * Fraction(part[0], part[1])
    return total


def tidied_by_hand(room):
    """The tidied room by other means: exact bounds, and the chosen row itself divided."""
    ways = []
    for row in room:
        common = gcd(*row[:-1])
        way = tuple(number // common for number in row[:-1]) if common else None
        if way is not None and way not in ways:
            ways.append(way)
    told = []
    for way in ways:
        rows = [row for row in room if any(row[:-1]) and tuple(n // gcd(*row[:-1]) for n in row[:-1]) == way]
        best = min(rows, key=lambda row: Fraction(row[-1], gcd(*row[:-1])))
        told.append(tuple(number // gcd(*best) for number in best))
    if any(not any(row[:-1]) and row[-1] < 0 for row in room):
        told.append((0,) * (len(room[0]) - 1) + (-1,))
    return told


class AlongTest(unittest.TestCase):
    def test_exact_sums(self):
        self.assertEqual(along((2, 3, 100), [(1, 2), (1, 3)]), (2, 1))
        self.assertEqual(along((1, 1, 0), [(1, 2), (1, 3)]), (5, 6))
        self.assertEqual(along((1, -1, 0), [(1, 2), (1, 3)]), (1, 6))
        self.assertEqual(along((-4, 5), [(3, 8)]), (-3, 2))
        self.assertEqual(along((1, 2, 3, 4), [(1, 1), (-1, 2), (5, 6)]), (5, 2))

    def test_it_is_a_fraction_in_lowest_terms(self):
        for row, point in (((0, 9), [(5, 7)]), ((1, 1, 9), [(1, 2), (-1, 2)]), ((4, 9), [(1, 6)]), ((7, 9), [(3, 1)])):
            with self.subTest(row=row):
                told = along(row, point)
                self.assertIs(type(told), tuple)
                self.assertIs(is_fraction(told), True)
        self.assertEqual(along((0, 9), [(5, 7)]), (0, 1))
        self.assertEqual(along((1, 1, 9), [(1, 2), (-1, 2)]), (0, 1))
        self.assertEqual(along((4, 9), [(1, 6)]), (2, 3))
        self.assertEqual(along((7, 9), [(3, 1)]), (21, 1))

    def test_the_bound_is_not_counted(self):
        for bound in (-7, 0, 5, LONG):
            with self.subTest(bound=bound):
                self.assertEqual(along((2, 3, bound), [(1, 2), (2, 1)]), (7, 1))

    def test_each_place_counts_by_its_own_number(self):
        self.assertEqual(along((1, 10, 100, 0), [(1, 1), (2, 1), (3, 1)]), (321, 1))

    def test_all_of_small_ones(self):
        for many in (1, 2, 3):
            for numbers in itertools.product((-3, 0, 2), repeat=many):
                for point in points_over(many):
                    told = along(numbers + (1,), point)
                    wanted = exact_sum(numbers, point)
                    self.assertEqual(told, (wanted.numerator, wanted.denominator))

    def test_nine_numbers(self):
        row = (1, -2, 3, -4, 5, -6, 7, -8, 9, 0)
        point = [(1, bottom) for bottom in range(1, 10)]
        wanted = exact_sum(row, point)
        self.assertEqual(along(row, point), (wanted.numerator, wanted.denominator))

    def test_long_numbers(self):
        self.assertEqual(along((LONG, 1, 0), [(1, LONG), (1, LONG)]), (LONG + 1, LONG))


class HoldsTest(unittest.TestCase):
    def test_just_the_bound_less_and_more(self):
        self.assertIs(holds((2, 3, 2), [(1, 2), (1, 3)]), True)
        self.assertIs(holds((2, 3, 3), [(1, 2), (1, 3)]), True)
        self.assertIs(holds((2, 3, 1), [(1, 2), (1, 3)]), False)

    def test_a_little_less_and_a_little_more(self):
        self.assertIs(holds((1, 5), [(5, 1)]), True)
        self.assertIs(holds((1, 5), [(5 * LONG - 1, LONG)]), True)
        self.assertIs(holds((1, 5), [(5 * LONG + 1, LONG)]), False)
        self.assertIs(holds((-1, -5), [(5, 1)]), True)
        self.assertIs(holds((-1, -5), [(5 * LONG - 1, LONG)]), False)
        self.assertIs(holds((-1, -5), [(5 * LONG + 1, LONG)]), True)

    def test_rows_of_noughts(self):
        for point in ([(0, 1), (0, 1)], [(-5, 2), (9, 1)]):
            with self.subTest(point=point):
                self.assertIs(holds((0, 0, 0), point), True)
                self.assertIs(holds((0, 0, 4), point), True)
                self.assertIs(holds((0, 0, -1), point), False)

    def test_all_of_small_ones(self):
        for many in (1, 2):
            for row in itertools.product((-2, 0, 1), repeat=many + 1):
                for point in points_over(many):
                    self.assertIs(holds(row, point), exact_sum(row[:-1], point) <= row[-1])


class LiesInTest(unittest.TestCase):
    ROOM = [(1, 0, 3), (-1, 0, 3), (0, 1, 2), (1, 1, 4)]

    def test_all_rows_hold(self):
        self.assertIs(lies_in(self.ROOM, [(0, 1), (0, 1)]), True)
        self.assertIs(lies_in(self.ROOM, [(2, 1), (2, 1)]), True)
        self.assertIs(lies_in(self.ROOM, [(-3, 1), (-50, 1)]), True)

    def test_a_single_row_does_not_hold(self):
        self.assertIs(lies_in(self.ROOM, [(7, 2), (0, 1)]), False)
        self.assertIs(lies_in(self.ROOM, [(-7, 2), (0, 1)]), False)
        self.assertIs(lies_in(self.ROOM, [(0, 1), (5, 2)]), False)
        self.assertIs(lies_in(self.ROOM, [(3, 1), (3, 2)]), False)

    def test_no_rows(self):
        for point in ([(0, 1)], [(-9, 2), (LONG, 1)], [(1, 1), (2, 1), (3, 1)]):
            with self.subTest(point=point):
                self.assertIs(lies_in([], point), True)

    def test_one_row(self):
        self.assertIs(lies_in([(2, 3)], [(3, 2)]), True)
        self.assertIs(lies_in([(2, 3)], [(5, 3)]), False)


class HandedInTest(unittest.TestCase):
    def test_points_and_rooms_stay_as_they_were(self):
        point = [(7, 2), (-1, 3)]
        room = [(4, 2, 6), (0, 0, -5), (-1, 0, 2), (2, 1, 3), (0, 0, 0)]
        along(room[0], point)
        holds(room[0], point)
        lies_in(room, point)
        direction(room[0])
        tidied(room)
        self.assertEqual(point, [(7, 2), (-1, 3)])
        self.assertEqual(room, [(4, 2, 6), (0, 0, -5), (-1, 0, 2), (2, 1, 3), (0, 0, 0)])

    def test_the_told_room_is_the_askers_own(self):
        for room in ([], [(1, 0, 2)], [(2, 4, 6), (0, 0, -3)]):
            with self.subTest(room=room):
                before = list(room)
                told = tidied(room)
                wanted = list(told)
                self.assertIsNot(told, room)
                told.append((9, 9, 9))
                told[0] = (8, 8, 8)
                self.assertEqual(room, before)
                self.assertEqual(tidied(room), wanted)

    def test_what_is_done_later_to_the_room_changes_nothing(self):
        room = [(2, 4, 6), (1, 0, 3)]
        told = tidied(room)
        room[0] = (5, 5, 5)
        room.append((0, 1, 1))
        self.assertEqual(told, [(1, 2, 3), (1, 0, 3)])
        self.assertEqual(tidied(room), [(1, 1, 1), (1, 0, 3), (0, 1, 1)])

    def test_what_is_done_later_to_the_point_is_seen(self):
        point = [(1, 1), (1, 1)]
        self.assertIs(lies_in([(1, 1, 2)], point), True)
        point[0] = (2, 1)
        self.assertEqual(along((1, 1, 2), point), (3, 1))
        self.assertIs(lies_in([(1, 1, 2)], point), False)

    def test_the_same_question_has_the_same_answer(self):
        room = [(2, 4, 6), (0, 0, -3), (1, 2, 2)]
        first = tidied(room)
        tidied([(1, 1, 1)])
        self.assertEqual(tidied(room), first)
        self.assertIsNot(tidied(room), first)


class DirectionTest(unittest.TestCase):
    def check(self, row, wanted):
        told = direction(row)
        self.assertEqual(told, wanted)
        self.assertIs(type(told), tuple)

    def test_divided_by_the_greatest_divisor(self):
        self.check((4, 6, 5), (2, 3))
        self.check((12, 18, 30, 7), (2, 3, 5))
        self.check((2, 3, 5), (2, 3))
        self.check((6, 10, 15, 0), (6, 10, 15))
        self.check((3 * LONG, 6 * LONG, 1), (1, 2))

    def test_signs_stay(self):
        self.check((-4, 6, 5), (-2, 3))
        self.check((4, -6, 5), (2, -3))
        self.check((-4, -6, 5), (-2, -3))
        self.check((-4, -6, -5), (-2, -3))

    def test_one_number(self):
        self.check((7, 3), (1,))
        self.check((-7, 3), (-1,))
        self.check((1, 3), (1,))
        self.check((0, 3), (0,))

    def test_noughts_among_others(self):
        self.check((0, 5, 3), (0, 1))
        self.check((0, -5, 3), (0, -1))
        self.check((4, 0, 6, 1), (2, 0, 3))

    def test_the_bound_does_not_count(self):
        for bound in (-8, -3, 0, 1, 2, 4, LONG):
            with self.subTest(bound=bound):
                self.check((4, 8, bound), (1, 2))

    def test_a_row_of_noughts(self):
        for bound in (-2, 0, 2):
            with self.subTest(bound=bound):
                self.check((0, bound), (0,))
                self.check((0, 0, bound), (0, 0))
                self.check((0, 0, 0, bound), (0, 0, 0))


class TidiedTest(unittest.TestCase):
    def check(self, room, wanted):
        told = tidied(room)
        self.assertEqual(told, wanted)
        self.assertIs(type(told), list)
        self.assertEqual([type(row) for row in told], [tuple] * len(wanted))

    def test_the_room_without_rows(self):
        self.check([], [])

    def test_rows_are_divided_by_what_divides_all_their_numbers(self):
        self.check([(4, 6, 10)], [(2, 3, 5)])
        self.check([(4, 6, 5)], [(4, 6, 5)])
        self.check([(4, 8, 6)], [(2, 4, 3)])
        self.check([(-4, 8, -6)], [(-2, 4, -3)])
        self.check([(6, 0)], [(1, 0)])
        self.check([(-6, -9)], [(-2, -3)])
        self.check([(2, 3, 4)], [(2, 3, 4)])
        self.check([(2 * LONG, 4 * LONG, 3 * LONG)], [(2, 4, 3)])

    def test_the_least_bound_of_a_direction(self):
        self.check([(1, 2, 5), (1, 2, 3), (1, 2, 4)], [(1, 2, 3)])
        self.check([(1, 2, 3), (1, 2, 5)], [(1, 2, 3)])
        self.check([(1, 2, 3), (1, 2, 3)], [(1, 2, 3)])

    def test_different_factors(self):
        self.check([(1, 2, 3), (2, 4, 4)], [(1, 2, 2)])
        self.check([(2, 4, 4), (1, 2, 3)], [(1, 2, 2)])
        self.check([(1, 2, 3), (3, 6, 10)], [(1, 2, 3)])
        self.check([(10, 50), (1, 7), (3, 18)], [(1, 5)])

    def test_bounds_that_do_not_divide_evenly(self):
        self.check([(2, 4, 7), (3, 6, 10)], [(3, 6, 10)])
        self.check([(3, 6, 10), (2, 4, 7)], [(3, 6, 10)])
        self.check([(2, 4, 7), (1, 2, 3)], [(1, 2, 3)])
        self.check([(2, 4, 7), (1, 2, 4)], [(2, 4, 7)])
        self.check([(3, 10), (2, 7), (5, 17)], [(3, 10)])
        self.check([(3, 10), (2, 7), (7, 23)], [(7, 23)])

    def test_bounds_below_0(self):
        self.check([(2, -3), (1, -1)], [(2, -3)])
        self.check([(1, -1), (2, -3)], [(2, -3)])
        self.check([(2, -3), (1, -2)], [(1, -2)])
        self.check([(3, 6, -7), (2, 4, -5)], [(2, 4, -5)])
        self.check([(3, 6, -8), (2, 4, -5)], [(3, 6, -8)])
        self.check([(1, 2, 0), (3, 6, -1)], [(3, 6, -1)])

    def test_bounds_that_differ_by_little(self):
        self.check([(LONG, 1), (LONG + 1, 1)], [(LONG + 1, 1)])
        self.check([(LONG + 1, 1), (LONG, 1)], [(LONG + 1, 1)])

    def test_equal_bounds_of_different_factors(self):
        self.check([(4, 8, 6), (2, 4, 3), (6, 12, 9)], [(2, 4, 3)])

    def test_directions_in_the_order_in_which_they_come_first(self):
        self.check([(0, 1, 9), (1, 0, 5), (0, 1, 2), (1, 1, 1), (1, 0, 4)], [(0, 1, 2), (1, 0, 4), (1, 1, 1)])
        self.check([(1, 1, 1), (1, 0, 4), (0, 1, 2)], [(1, 1, 1), (1, 0, 4), (0, 1, 2)])
        self.check([(2, 0, 9), (0, 1, 2), (1, 0, 4)], [(1, 0, 4), (0, 1, 2)])

    def test_opposite_directions_stay_apart(self):
        self.check([(1, 2, 3), (-1, -2, -3)], [(1, 2, 3), (-1, -2, -3)])
        self.check([(-2, 4), (2, 4), (-1, 1), (1, 3)], [(-1, 1), (1, 2)])

    def test_rows_of_noughts(self):
        self.check([(0, 0, 0)], [])
        self.check([(0, 0, 5)], [])
        self.check([(0, 0, -5)], [(0, 0, -1)])
        self.check([(0, 0, -1)], [(0, 0, -1)])
        self.check([(0, -3)], [(0, -1)])
        self.check([(0, 0, 0, -3)], [(0, 0, 0, -1)])
        self.check([(0, 0, -5), (0, 0, 5), (0, 0, 0), (0, 0, -2)], [(0, 0, -1)])

    def test_rows_of_noughts_come_last(self):
        self.check([(0, 0, -5), (1, 2, 3)], [(1, 2, 3), (0, 0, -1)])
        self.check([(0, 0, 5), (1, 2, 3), (0, 0, 0)], [(1, 2, 3)])
        self.check([(1, 2, 3), (0, 0, -5), (0, 1, 2), (0, 0, 1)], [(1, 2, 3), (0, 1, 2), (0, 0, -1)])

    def test_rows_that_shut_one_another_out_both_stay(self):
        self.check([(1, 0), (-1, -1)], [(1, 0), (-1, -1)])

    def test_three_numbers(self):
        self.check([(2, 4, 6, 9), (1, 2, 3, 5), (0, 3, 0, 6)], [(2, 4, 6, 9), (0, 1, 0, 2)])

    def test_up_to_nine_numbers(self):
        self.check([(2,) * 9 + (5,), (3,) * 9 + (7,)], [(3,) * 9 + (7,)])

    def test_all_small_rooms(self):
        for many, numbers, bounds in ((1, (-3, -2, 0, 1, 2), (-2, -1, 0, 3)), (2, (-2, 0, 1), (-1, 2))):
            rows = [part + (bound,) for part in itertools.product(numbers, repeat=many) for bound in bounds]
            for size in (0, 1, 2, 3):
                for room in itertools.product(rows, repeat=size):
                    told = tidied(list(room))
                    self.assertEqual(told, tidied_by_hand(room))
                    self.assertEqual(tidied(told), told)

    def test_the_same_points_lie_in_both(self):
        rows = [part + (bound,) for part in itertools.product((-2, 0, 4), repeat=2) for bound in (-3, 1, 2)]
        points = points_over(2)
        for room in itertools.combinations(rows, 2):
            told = tidied(list(room))
            for point in points:
                self.assertIs(lies_in(told, point), lies_in(list(room), point))


if __name__ == "__main__":
    unittest.main()
