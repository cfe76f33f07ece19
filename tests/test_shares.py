"""Points 2, 3, 16, 17 and 18: rows added by numbers, and shares."""

import itertools
import unittest

from helpers import LONG, LONG_OTHER, NOT_LISTS, NOT_WHOLE, Case, drawn, draw_room, exact, exact_along, told
from steadyhand.rows import holds, lies_in
from steadyhand.shares import added, shows

ROWS = [(2, 3, 10), (-1, 1, 4), (1, 0, 7)]


class AddedTest(Case):
    def test_each_place_is_the_sum_of_the_numbers_times_the_rows(self):
        self.assertEqual(added(ROWS, [1, 0, 0], 2), (2, 3, 10))
        self.assertEqual(added(ROWS, [0, 1, 0], 2), (-1, 1, 4))
        self.assertEqual(added(ROWS, [3, 3, 2], 2), (5, 12, 56))
        self.assertEqual(added(ROWS, [1, -2, 5], 2), (9, 1, 37))
        self.assertEqual(added(ROWS, [-1, -1, -1], 2), (-2, -4, -21))
        self.assertEqual(added([(5, 6)], [7], 1), (35, 42))

    def test_it_is_a_tuple_of_whole_numbers(self):
        for rows, numbers, many in (([], [], 1), (ROWS, [0, 0, 0], 2), ([(1, 2)], [3], 1)):
            row = added(rows, numbers, many)
            self.assertIs(type(row), tuple)
            self.assertEqual([type(number) for number in row], [int] * (many + 1))

    def test_of_no_rows_the_noughts(self):
        for many in range(1, 10):
            self.assertEqual(added([], [], many), tuple([0] * (many + 1)))

    def test_up_to_nine_numbers(self):
        source = drawn(21)
        for many in range(1, 10):
            for count in range(5):
                rows = draw_room(source, many, 9, count)
                numbers = [source.randint(-9, 9) for row in rows]
                wanted = tuple(sum(number * row[place] for number, row in zip(numbers, rows))
                               for place in range(many + 1))
                self.assertEqual(added(rows, numbers, many), wanted)

    def test_long_numbers(self):
        self.assertEqual(added([(LONG, 1), (1, -LONG_OTHER)], [LONG, -LONG_OTHER], 1),
                         (LONG * LONG - LONG_OTHER, LONG + LONG_OTHER * LONG_OTHER))

    def test_what_is_handed_in_stays(self):
        rows = [(1, 2), (3, 4)]
        numbers = [5, 6]
        added(rows, numbers, 1)
        self.assertEqual((rows, numbers), ([(1, 2), (3, 4)], [5, 6]))


class ShowsTest(Case):
    def check(self, wanted, rows, target, shares):
        self.assertIs(shows(rows, target, shares), wanted)

    def test_the_sums_bound_just_so_one_less_one_more(self):
        rows = ROWS
        self.check(True, rows, (5, 12, 56), (1, [3, 3, 2]))
        self.check(True, rows, (5, 12, 57), (1, [3, 3, 2]))
        self.check(False, rows, (5, 12, 55), (1, [3, 3, 2]))

    def test_times_above_1(self):
        # Twice the target's numbers; twice its bound is 56, 58, 54.
        rows = [(2, 4, 10), (0, 2, 46)]
        self.check(True, rows, (1, 3, 28), (2, [1, 1]))
        self.check(True, rows, (1, 3, 29), (2, [1, 1]))
        self.check(False, rows, (1, 3, 27), (2, [1, 1]))
        self.check(False, rows, (1, 3, 28), (1, [1, 1]))
        self.check(False, rows, (1, 3, 28), (3, [1, 1]))
        self.check(False, rows, (1, 3, 28), (4, [1, 1]))
        self.check(True, rows, (1, 3, 28), (4, [2, 2]))
        self.check(True, [(2, 3)], (2, 3), (1, [1]))
        # Three times the bound is 12; 11 would be just short of it.
        self.check(True, [(3, 12)], (1, 4), (3, [1]))
        self.check(True, [(3, 11)], (1, 4), (3, [1]))
        self.check(False, [(3, 13)], (1, 4), (3, [1]))
        self.check(True, [(3, -12)], (1, -4), (3, [1]))
        self.check(False, [(3, -11)], (1, -4), (3, [1]))

    def test_a_target_turned_by_one_at_a_number(self):
        for place in range(2):
            for change in (-1, 1):
                target = [5, 12, 56]
                target[place] += change
                self.check(False, ROWS, tuple(target), (1, [3, 3, 2]))

    def test_times_0(self):
        rows = [(1, 2, 3), (-1, -2, -4)]
        self.check(True, rows, (1, 1, 1), (0, [1, 1]))
        self.check(True, rows, (0, 0, -5), (0, [2, 2]))
        self.check(False, rows, (1, 1, 1), (0, [1, 2]))
        self.check(False, rows, (0, 0, 0), (0, [0, 0]))
        self.check(False, rows, (1, 2, 3), (0, [1, 0]))
        even = [(1, 2, 3), (-1, -2, -3)]
        self.check(False, even, (1, 1, 1), (0, [1, 1]))
        self.check(False, even, (0, 0, 0), (0, [1, 1]))
        above = [(1, 2, 3), (-1, -2, -2)]
        self.check(False, above, (1, 1, 1), (0, [1, 1]))
        # The numbers must be noughts, each of them.
        self.check(False, [(1, 0, -5)], (1, 0, 1), (0, [1]))
        self.check(False, [(0, 1, -5)], (0, 1, 1), (0, [1]))
        self.check(True, [(0, 0, -5)], (0, 1, 1), (0, [1]))

    def test_no_rows(self):
        self.check(True, [], (0, 0), (1, []))
        self.check(True, [], (0, 5), (3, []))
        self.check(False, [], (0, -1), (1, []))
        self.check(False, [], (1, 5), (1, []))
        self.check(False, [], (0, 5), (0, []))
        self.check(False, [], (0, 0), (0, []))

    def test_a_target_of_noughts(self):
        self.check(True, [(1, 2), (-1, 3)], (0, 5), (1, [1, 1]))
        self.check(True, [(1, 2), (-1, 3)], (0, 0), (1, [0, 0]))
        self.check(False, [(1, 2), (-1, 3)], (0, 4), (1, [1, 1]))

    def test_what_are_no_shares(self):
        good = (1, [3, 3, 2])
        target = (5, 12, 56)
        self.check(True, ROWS, target, good)
        for wrong in NOT_LISTS + NOT_WHOLE + (
                [1, [3, 3, 2]], (1,), ([3, 3, 2],), (1, [3, 3, 2], 0), ([3, 3, 2], 1), (1, (3, 3, 2)), (1, [3, 3]),
                (1, [3, 3, 2, 0]), (1, []), (-1, [3, 3, 2]), (1, None), (1, 3), (1, "332"), (1, {0: 3, 1: 3, 2: 2}),
                object(), {0: 1, 1: [3, 3, 2]}, ((1, [3, 3, 2]),)):
            with self.subTest(wrong=wrong):
                self.check(False, ROWS, target, wrong)

    def test_other_kinds_at_each_place(self):
        target = (5, 12, 56)
        for value in NOT_WHOLE:
            self.check(False, ROWS, target, (value, [3, 3, 2]))
            for place in range(3):
                numbers = [3, 3, 2]
                numbers[place] = value
                self.check(False, ROWS, target, (1, numbers))
                self.check(False, ROWS, target, (0, numbers))
        # Truths that would add up.
        self.check(False, [(1, 2)], (1, 2), (True, [1]))
        self.check(False, [(1, 2)], (1, 2), (1, [True]))
        self.check(False, [(1, 2), (5, 5)], (1, 2), (1, [1, False]))
        self.check(False, [(0, -1)], (1, 2), (False, [1]))

    def test_numbers_below_0(self):
        self.check(False, [(-1, 2)], (1, 100), (1, [-1]))
        self.check(False, [(-1, -2)], (1, 2), (1, [-1]))
        self.check(False, [(-1, 2)], (1, 100), (-1, [1]))
        self.check(False, [(0, 1)], (1, 1), (0, [-1]))
        self.check(False, [(1, 2), (1, 2)], (1, 2), (1, [2, -1]))
        self.check(False, [(-1, 2)], (1, -2), (-1, [1]))

    def test_long_numbers(self):
        rows = [(LONG, 1), (-LONG_OTHER, LONG)]
        total = (LONG * 3 - LONG_OTHER * 2, 3 + 2 * LONG)
        self.check(True, rows, total, (1, [3, 2]))
        self.check(True, [(LONG * LONG_OTHER, LONG * 5)], (LONG_OTHER, 5), (LONG, [1]))
        self.check(False, [(LONG * LONG_OTHER, LONG * 5 + 1)], (LONG_OTHER, 5), (LONG, [1]))
        self.check(False, [(LONG * LONG_OTHER + 1, LONG * 5)], (LONG_OTHER, 5), (LONG, [1]))

    def test_up_to_nine_numbers(self):
        for many in range(1, 10):
            row = tuple(range(1, many + 1)) + (9,)
            self.check(True, [row], row, (1, [1]))
            for place in range(many):
                other = list(row)
                other[place] += 1
                self.check(False, [row], tuple(other), (1, [1]))

    def test_what_is_handed_in_stays(self):
        rows = list(ROWS)
        shares = (1, [3, 3, 2])
        shows(rows, (5, 12, 56), shares)
        self.assertEqual((rows, shares), (ROWS, (1, [3, 3, 2])))


class WhatIsShownHoldsTest(Case):
    VALUES = [told(number) for number in (-3, -2, -1, 0, 1, 2, 3)] + [(1, 2), (-3, 2), (4, 3)]

    def test_each_point_that_holds_the_rows_holds_the_target(self):
        source = drawn(22)
        tight = 0
        for turn in range(200):
            rows = draw_room(source, 2, 2, 3, low=-1)
            numbers = [source.randint(0, 2) for row in rows]
            total = added(rows, numbers, 2)
            target = total[:-1] + (total[-1] + source.randint(0, 1),)
            self.assertIs(shows(rows, target, (1, numbers)), True)
            for point in itertools.product(self.VALUES, repeat=2):
                if lies_in(rows, list(point)):
                    self.assertTrue(holds(target, list(point)))
                    values = [exact(value) for value in point]
                    tight += any(exact_along(row[:-1], values) == row[-1] for row in rows)
        self.assertGreater(tight, 100)

    def test_with_times_0_no_point_holds_them(self):
        source = drawn(23)
        seen = 0
        while seen < 40:
            rows = draw_room(source, 2, 1, 3)
            for numbers in itertools.product((0, 1, 2), repeat=3):
                if shows(rows, (1, 1, 1), (0, list(numbers))):
                    seen += 1
                    for point in itertools.product(self.VALUES, repeat=2):
                        self.assertFalse(lies_in(rows, list(point)))


if __name__ == "__main__":
    unittest.main()
