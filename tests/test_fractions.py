"""Points 2 and 4: whole numbers and fractions."""

import unittest
from fractions import Fraction

from steadyhand import errors
from steadyhand.fractions import (
    ceiling_of, floor_of, fraction, is_fraction, is_whole, minus, plus, times, under)

# Two numbers of forty figures without a common divisor: the one is odd, the other a power of two.
LONG = 2 ** 130 + 1
LONG_OTHER = 2 ** 131
OTHER_REFUSALS = (
    errors.BadThing, errors.BadRule, errors.TooMany, errors.NoRun, errors.NotClosed,
    errors.NotPlain, errors.BadTurn, errors.NoText, errors.NoRow)
NOT_WHOLE = (True, False, None, "", "1", 1.0, 0.5, 2j, b"1", [], [1], (), (1,), (1, 1), (1, 2), {}, {1: 2}, set(),
             object(), int, len, Fraction(1))
VALUES = [fraction(top, bottom) for top in range(-7, 8) for bottom in range(1, 6)]


def exact(value):
    return Fraction(value[0], value[1])


class WholeTest(unittest.TestCase):
    def test_ints_are_whole(self):
        for number in (0, 1, -1, 2, 40, -300, LONG, -LONG, 10 ** 300):
            with self.subTest(number=number):
                self.assertIs(is_whole(number), True)

    def test_all_else_is_not(self):
        for thing in NOT_WHOLE:
            with self.subTest(thing=thing):
                self.assertIs(is_whole(thing), False)


class IsFractionTest(unittest.TestCase):
    def test_tuples_in_lowest_terms(self):
        for thing in ((0, 1), (1, 1), (-1, 1), (5, 1), (1, 2), (-1, 2), (3, 2), (-9, 4), (1, 900),
                      (LONG, LONG_OTHER), (-LONG, LONG_OTHER), (LONG, 1)):
            with self.subTest(thing=thing):
                self.assertIs(is_fraction(thing), True)

    def test_not_in_lowest_terms(self):
        for thing in ((0, 2), (0, LONG), (2, 2), (2, 4), (-2, 4), (-6, 3), (6, 9), (-6, 9),
                      (3 * LONG, 3 * LONG_OTHER), (LONG, LONG), (2 * LONG, LONG)):
            with self.subTest(thing=thing):
                self.assertIs(is_fraction(thing), False)

    def test_a_bottom_of_0_or_below(self):
        for thing in ((0, 0), (1, 0), (-1, 0), (1, -1), (0, -1), (-1, -1), (1, -2), (-1, -2), (2, -4)):
            with self.subTest(thing=thing):
                self.assertIs(is_fraction(thing), False)

    def test_tuples_of_another_length(self):
        for thing in ((), (1,), (0,), (1, 2, 3), (1, 2, 1), (1, 2, None), (1, 2, 3, 4)):
            with self.subTest(thing=thing):
                self.assertIs(is_fraction(thing), False)

    def test_parts_that_are_not_whole(self):
        for part in NOT_WHOLE:
            with self.subTest(part=part):
                self.assertIs(is_fraction((part, 1)), False)
                self.assertIs(is_fraction((part, 2)), False)
                self.assertIs(is_fraction((1, part)), False)
                self.assertIs(is_fraction((0, part)), False)
                self.assertIs(is_fraction((part, part)), False)

    def test_things_of_other_kinds(self):
        for thing in (0, 1, -1, 5, True, False, None, "", "1", "12", "1/2", 0.5, [], [1, 2], [0, 1], {}, {1: 2},
                      {1: 2, 3: 4}, {1, 2}, b"12", object(), tuple, len, Fraction(1, 2), ((1, 2), (1, 2))):
            with self.subTest(thing=thing):
                self.assertIs(is_fraction(thing), False)

    def test_a_list_handed_in_stays_as_it_was(self):
        thing = [1, 2]
        is_fraction(thing)
        self.assertEqual(thing, [1, 2])


class FractionTest(unittest.TestCase):
    def check(self, told, top, bottom):
        self.assertEqual(told, (top, bottom))
        self.assertIs(type(told), tuple)
        self.assertEqual([type(part) for part in told], [int, int])
        self.assertIs(is_fraction(told), True)

    def test_lowest_terms_of_either_sign(self):
        self.check(fraction(6, 4), 3, 2)
        self.check(fraction(-6, 4), -3, 2)
        self.check(fraction(1, 2), 1, 2)
        self.check(fraction(-1, 2), -1, 2)
        self.check(fraction(10, 5), 2, 1)
        self.check(fraction(-10, 5), -2, 1)
        self.check(fraction(4, 6), 2, 3)
        self.check(fraction(7, 7), 1, 1)

    def test_a_bottom_below_0_turns_both_signs(self):
        self.check(fraction(6, -4), -3, 2)
        self.check(fraction(-6, -4), 3, 2)
        self.check(fraction(1, -1), -1, 1)
        self.check(fraction(-1, -1), 1, 1)
        self.check(fraction(5, -7), -5, 7)
        self.check(fraction(-5, -7), 5, 7)

    def test_the_bottom_left_out_is_1(self):
        self.check(fraction(7), 7, 1)
        self.check(fraction(-7), -7, 1)
        self.check(fraction(0), 0, 1)
        self.check(fraction(LONG), LONG, 1)

    def test_arguments_by_name(self):
        self.check(fraction(top=9, bottom=6), 3, 2)
        self.check(fraction(top=9), 9, 1)

    def test_nought(self):
        for bottom in (1, 2, 9, -1, -2, LONG, -LONG):
            with self.subTest(bottom=bottom):
                self.check(fraction(0, bottom), 0, 1)

    def test_long_numbers(self):
        self.check(fraction(LONG, LONG_OTHER), LONG, LONG_OTHER)
        self.check(fraction(-LONG, LONG_OTHER), -LONG, LONG_OTHER)
        self.check(fraction(LONG, -LONG_OTHER), -LONG, LONG_OTHER)
        self.check(fraction(LONG, LONG), 1, 1)
        self.check(fraction(3 * 10 ** 40, 9 * 10 ** 40), 1, 3)
        self.check(fraction(10 ** 299 + 1, 10 ** 299), 10 ** 299 + 1, 10 ** 299)

    def test_both_numbers_times_a_common_one(self):
        for common in (1, 2, 6, 35, -1, -4, LONG, -LONG):
            for top, bottom in ((0, 1), (1, 1), (3, 2), (-3, 2), (5, 12), (-35, 6), (LONG, LONG_OTHER)):
                with self.subTest(common=common, top=top, bottom=bottom):
                    self.check(fraction(top * common, bottom * common), top, bottom)

    def test_all_small_ones(self):
        for top in range(-30, 31):
            for bottom in list(range(-30, 0)) + list(range(1, 31)):
                value = Fraction(top, bottom)
                self.check(fraction(top, bottom), value.numerator, value.denominator)

    def refused(self, *parts):
        with self.assertRaises(errors.NoNumber) as caught:
            fraction(*parts)
        self.assertIsInstance(caught.exception, errors.SteadyError)
        self.assertIsInstance(caught.exception, ValueError)
        self.assertNotIsInstance(caught.exception, OTHER_REFUSALS)

    def test_a_bottom_of_0_is_refused(self):
        for top in (0, 1, -1, LONG):
            with self.subTest(top=top):
                self.refused(top, 0)

    def test_what_is_no_whole_number_is_refused(self):
        for thing in NOT_WHOLE:
            with self.subTest(thing=thing):
                self.refused(thing)
                self.refused(thing, 1)
                self.refused(thing, 2)
                self.refused(thing, 0)
                self.refused(1, thing)
                self.refused(0, thing)
                self.refused(thing, thing)

    def test_a_refusal_changes_nothing(self):
        handed = [1, 2]
        self.refused(handed, 2)
        self.refused(2, handed)
        self.assertEqual(handed, [1, 2])
        self.check(fraction(2, 4), 1, 2)


class SumsTest(unittest.TestCase):
    def check(self, told, value):
        self.assertEqual(told, (value.numerator, value.denominator))
        self.assertIs(is_fraction(told), True)

    def test_sums(self):
        self.assertEqual(plus((1, 2), (1, 3)), (5, 6))
        self.assertEqual(plus((1, 6), (1, 3)), (1, 2))
        self.assertEqual(plus((1, 2), (1, 2)), (1, 1))
        self.assertEqual(plus((1, 2), (-1, 2)), (0, 1))
        self.assertEqual(plus((-3, 4), (1, 4)), (-1, 2))
        self.assertEqual(plus((0, 1), (-2, 3)), (-2, 3))

    def test_differences(self):
        self.assertEqual(minus((1, 2), (1, 3)), (1, 6))
        self.assertEqual(minus((1, 3), (1, 2)), (-1, 6))
        self.assertEqual(minus((5, 6), (1, 3)), (1, 2))
        self.assertEqual(minus((7, 3), (7, 3)), (0, 1))
        self.assertEqual(minus((0, 1), (-2, 3)), (2, 3))

    def test_products(self):
        self.assertEqual(times((2, 3), (3, 2)), (1, 1))
        self.assertEqual(times((2, 3), (3, 4)), (1, 2))
        self.assertEqual(times((-2, 3), (3, 4)), (-1, 2))
        self.assertEqual(times((-2, 3), (-3, 4)), (1, 2))
        self.assertEqual(times((0, 1), (5, 7)), (0, 1))
        self.assertEqual(times((5, 1), (-7, 1)), (-35, 1))

    def test_all_of_small_ones(self):
        for one in VALUES:
            for other in VALUES:
                self.check(plus(one, other), exact(one) + exact(other))
                self.check(minus(one, other), exact(one) - exact(other))
                self.check(times(one, other), exact(one) * exact(other))

    def test_long_ones(self):
        one = (LONG, LONG_OTHER)
        other = (-LONG_OTHER, LONG)
        self.check(plus(one, other), exact(one) + exact(other))
        self.check(minus(one, other), exact(one) - exact(other))
        self.assertEqual(times(one, other), (-1, 1))
        self.assertEqual(minus(one, one), (0, 1))

    def test_what_was_told_may_be_handed_in_again_however_long(self):
        value = (10 ** 299 + 1, 10 ** 299)
        wanted = exact(value)
        for turn in range(3):
            value = times(value, value)
            wanted = wanted * wanted
        self.check(value, wanted)

    def test_the_same_question_has_the_same_answer(self):
        first = plus((1, 2), (1, 3))
        plus((7, 2), (9, 4))
        self.assertEqual(plus((1, 2), (1, 3)), first)


class OrderTest(unittest.TestCase):
    def test_less_and_more(self):
        self.assertIs(under((1, 3), (1, 2)), True)
        self.assertIs(under((1, 2), (1, 3)), False)
        self.assertIs(under((-1, 2), (-1, 3)), True)
        self.assertIs(under((-1, 3), (-1, 2)), False)
        self.assertIs(under((-1, 2), (0, 1)), True)
        self.assertIs(under((0, 1), (-1, 2)), False)
        self.assertIs(under((5, 2), (3, 1)), True)

    def test_equal_ones(self):
        for value in VALUES + [(LONG, LONG_OTHER)]:
            with self.subTest(value=value):
                self.assertIs(under(value, value), False)

    def test_all_of_small_ones(self):
        for one in VALUES:
            for other in VALUES:
                self.assertIs(under(one, other), exact(one) < exact(other))

    def test_long_ones_that_lie_close(self):
        one = (LONG, LONG_OTHER)
        other = (LONG + 2, LONG_OTHER)
        self.assertIs(under(one, other), True)
        self.assertIs(under(other, one), False)


class WholeBoundsTest(unittest.TestCase):
    def check(self, value, low, high):
        self.assertEqual(floor_of(value), low)
        self.assertEqual(ceiling_of(value), high)
        self.assertIs(type(floor_of(value)), int)
        self.assertIs(type(ceiling_of(value)), int)

    def test_fractions_above_and_below_0(self):
        self.check((7, 2), 3, 4)
        self.check((-7, 2), -4, -3)
        self.check((1, 3), 0, 1)
        self.check((-1, 3), -1, 0)
        self.check((5, 3), 1, 2)
        self.check((-5, 3), -2, -1)

    def test_whole_ones(self):
        for number in (0, 1, -1, 3, -3, LONG, -LONG):
            with self.subTest(number=number):
                self.check((number, 1), number, number)

    def test_long_ones(self):
        number = 10 ** 40
        self.check((3 * number + 1, 3), number, number + 1)
        self.check((-3 * number - 1, 3), -number - 1, -number)
        self.check((3 * number - 1, 3), number - 1, number)

    def test_all_small_ones(self):
        for value in VALUES:
            low = floor_of(value)
            high = ceiling_of(value)
            self.assertTrue(low <= exact(value) < low + 1)
            self.assertTrue(high - 1 < exact(value) <= high)


if __name__ == "__main__":
    unittest.main()
