"""Points 2, 9, 10 and 11: steering rules and their pieces."""

import itertools
import unittest
from fractions import Fraction

from helpers import (
    LONG, LONG_OTHER, NOT_LISTS, NOT_WHOLE, Case, drawn, draw_point, draw_rule, exact, exact_along,
    plain)
from steadyhand.errors import BadRule, TooMany
from steadyhand.rows import lies_in
from steadyhand.rules import Parted, Rule, Stopped, Straight, pieces


def plain_pieces(rule, many):
    return [(rows, straight.numbers, straight.add, straight.divisor) for rows, straight in pieces(rule, many)]


def exact_steering(rule, point):
    """What the rule tells, by the words of point 9, over plain numbers."""
    if isinstance(rule, Straight):
        return (exact_along(rule.numbers, point) + rule.add) / Fraction(rule.divisor)
    if isinstance(rule, Stopped):
        return min(max(exact_steering(rule.rule, point), rule.low), rule.high)
    held = exact_along(rule.row[:-1], point) <= rule.row[-1]
    return exact_steering(rule.rule if held else rule.other, point)


def rules_of(count, many=1):
    """A rule of just so many pieces."""
    if count == 1:
        return Straight([1] * many, 0)
    return Parted(tuple([1] * many) + (count,), Straight([0] * many, count), rules_of_half(count - 1, many))


def rules_of_half(count, many):
    # In halves, so that no rule lies more than twelve deep.
    if count == 1:
        return Straight([1] * many, 0)
    half = count // 2
    return Parted(tuple([1] * many) + (count,), rules_of_half(half, many), rules_of_half(count - half, many))


class KindsTest(Case):
    def test_classes_straight_under_rule(self):
        for kind in (Straight, Stopped, Parted):
            self.assertEqual(kind.__bases__, (Rule,))
        self.assertEqual(Rule.__bases__, (object,))

    def test_fields(self):
        straight = Straight([1, 2], 3, 4)
        self.assertEqual((straight.numbers, straight.add, straight.divisor), ([1, 2], 3, 4))
        self.assertEqual(Straight([1, 2], 3).divisor, 1)
        self.assertEqual(Straight(numbers=[1], add=2, divisor=5).divisor, 5)
        stopped = Stopped(straight, -5, 6)
        self.assertEqual((stopped.low, stopped.high), (-5, 6))
        self.assertEqual(plain(stopped.rule), plain(straight))
        parted = Parted((1, 2, 3), straight, stopped)
        self.assertEqual(parted.row, (1, 2, 3))
        self.assertEqual(plain(parted.rule), plain(straight))
        self.assertEqual(plain(parted.other), plain(stopped))

    def test_making_refuses_nothing(self):
        inside_itself = []
        inside_itself.append(inside_itself)
        for value in NOT_WHOLE + NOT_LISTS + (inside_itself, object(), 0, -1):
            for other in (value, 5):
                self.assertIsInstance(Straight(value, other, value), Rule)
                self.assertIsInstance(Straight(other, value), Rule)
                self.assertIsInstance(Stopped(value, other, value), Rule)
                self.assertIsInstance(Stopped(other, value, other), Rule)
                self.assertIsInstance(Parted(value, other, value), Rule)
                self.assertIsInstance(Parted(other, value, other), Rule)

    def test_a_list_handed_in_and_changed_later_changes_nothing(self):
        numbers = [1, 2]
        straight = Straight(numbers, 3)
        numbers[0] = 9
        numbers.append(7)
        self.assertEqual(straight.numbers, [1, 2])
        self.assertEqual(straight.steering([(1, 1), (1, 1)]), (6, 1))
        wrong = [1]
        other = Straight(wrong, 3)
        wrong.append(2)
        self.refused(BadRule, pieces, other, 2)


class SteeringTest(Case):
    def test_straight(self):
        self.assertEqual(Straight([2], 3).steering([(5, 1)]), (13, 1))
        self.assertEqual(Straight([2], 3, 4).steering([(5, 2)]), (2, 1))
        self.assertEqual(Straight([2], 3, 5).steering([(5, 2)]), (8, 5))
        self.assertEqual(Straight([-1, 2], 0, 3).steering([(1, 2), (1, 3)]), (1, 18))
        self.assertEqual(Straight([0, 0, 0], 6, 4).steering([(1, 2), (1, 3), (9, 1)]), (3, 2))
        self.assertEqual(Straight([1, 10, 100], 0).steering([(1, 1), (2, 1), (3, 1)]), (321, 1))
        self.assertEqual(Straight([1], -1).steering([(1, 1)]), (0, 1))

    def test_stopped(self):
        rule = Stopped(Straight([1], 0, 2), -2, 3)
        for value, wanted in (
                ((-100, 1), (-2, 1)), ((-5, 1), (-2, 1)), ((-4, 1), (-2, 1)), ((-7, 2), (-7, 4)), ((0, 1), (0, 1)),
                ((5, 1), (5, 2)), ((6, 1), (3, 1)), ((13, 2), (3, 1)), ((100, 1), (3, 1)),
                ((-4 * LONG - 1, LONG), (-2, 1)), ((6 * LONG + 1, LONG), (3, 1))):
            with self.subTest(value=value):
                self.assertEqual(rule.steering([value]), wanted)
        self.assertEqual(Stopped(Straight([1], 0), 4, 4).steering([(9, 2)]), (4, 1))
        self.assertEqual(Stopped(Straight([1], 0), 4, 4).steering([(7, 2)]), (4, 1))

    def test_parted(self):
        rule = Parted((2, -3, 1), Straight([1, 0], 0), Straight([0, 1], 100))
        self.assertEqual(rule.steering([(1, 2), (0, 1)]), (1, 2))
        self.assertEqual(rule.steering([(2, 1), (1, 1)]), (2, 1))
        self.assertEqual(rule.steering([(2, 1), (0, 1)]), (100, 1))
        self.assertEqual(rule.steering([(LONG + 2, 2 * LONG), (0, 1)]), (100, 1))
        self.assertEqual(rule.steering([(LONG - 2, 2 * LONG), (0, 1)]), (LONG - 2, 2 * LONG))

    def test_in_one_another(self):
        rule = Stopped(
            Parted((1, 0), Stopped(Straight([3], 1), -4, 2), Parted((1, 5), Straight([-2], 0), Straight([1], 0, 3))),
            -6, 3)
        for number, wanted in (
                (-3, -4), (-1, -2), (0, 1), (1, -2), (3, -6), (5, -6), (6, 2), (8, Fraction(8, 3)), (99, 3)):
            with self.subTest(number=number):
                self.assertEqual(exact(rule.steering([(number, 1)])), wanted)

    def test_drawn_rules_at_whole_points_and_fractions(self):
        source = drawn(9)
        for turn in range(300):
            many = source.randint(1, 3)
            rule = draw_rule(source, many, 3)
            for point in [draw_point(source, many) for other in range(5)] + [[(0, 1)] * many]:
                self.assertEqual(exact(rule.steering(point)), exact_steering(rule, [exact(value) for value in point]))

    def test_long_numbers(self):
        rule = Straight([LONG, -LONG_OTHER], LONG, LONG_OTHER)
        point = [(1, LONG), (LONG, 1)]
        self.assertEqual(exact(rule.steering(point)),
                         Fraction(1 - LONG_OTHER * LONG + LONG, LONG_OTHER))
        self.assertEqual(Stopped(rule, -LONG, LONG).steering([(1, LONG), (LONG * LONG, 1)]), (-LONG, 1))

    def test_the_point_stays(self):
        point = [(1, 2), (3, 4)]
        Parted((1, 1, 1), Stopped(Straight([1, 2], 3), 0, 1), Straight([1, 1], 0)).steering(point)
        self.assertEqual(point, [(1, 2), (3, 4)])


class PiecesTest(Case):
    def test_of_a_straight(self):
        straight = Straight([4, 5], 6, 7)
        self.assertEqual(plain_pieces(straight, 2), [([], [4, 5], 6, 7)])
        self.assertIs(type(pieces(straight, 2)), list)
        self.assertIs(type(pieces(straight, 2)[0]), tuple)

    def test_of_a_stopped(self):
        self.assertEqual(plain_pieces(Stopped(Straight([4, -5], 6, 7), -2, 3), 2), [
            ([(4, -5, -20)], [0, 0], -2, 1),
            ([(-4, 5, 20), (4, -5, 15)], [4, -5], 6, 7),
            ([(-4, 5, -15)], [0, 0], 3, 1)])

    def test_of_a_parted(self):
        rule = Parted((1, -2, 3), Straight([4, 5], 6, 7), Straight([8, 9], 10, 11))
        self.assertEqual(plain_pieces(rule, 2), [
            ([(1, -2, 3)], [4, 5], 6, 7),
            ([(-1, 2, -3)], [8, 9], 10, 11)])

    def test_of_the_example_in_the_document(self):
        rule = Parted((1, 0), Straight([0], 5, 1), Stopped(Straight([-1], 0, 3), -2, 2))
        self.assertEqual(plain_pieces(rule, 1), [
            ([(1, 0)], [0], 5, 1),
            ([(-1, 0), (-1, -6)], [0], -2, 1),
            ([(-1, 0), (1, 6), (-1, 6)], [-1], 0, 3),
            ([(-1, 0), (1, -6)], [0], 2, 1)])

    def test_stops_of_a_parted_come_behind_its_rows(self):
        rule = Stopped(Parted((1, 9), Straight([2], 1, 3), Straight([5], 0)), 0, 4)
        self.assertEqual(plain_pieces(rule, 1), [
            ([(1, 9), (2, -1)], [0], 0, 1),
            ([(1, 9), (-2, 1), (2, 11)], [2], 1, 3),
            ([(1, 9), (-2, -11)], [0], 4, 1),
            ([(-1, -9), (5, 0)], [0], 0, 1),
            ([(-1, -9), (-5, 0), (5, 4)], [5], 0, 1),
            ([(-1, -9), (-5, -4)], [0], 4, 1)])

    def test_stops_in_stops(self):
        rule = Stopped(Stopped(Straight([1], 0), -5, 5), -3, 2)
        self.assertEqual(plain_pieces(rule, 1), [
            ([(1, -5), (0, 2)], [0], -3, 1),
            ([(1, -5), (0, -2), (0, 7)], [0], -5, 1),
            ([(1, -5), (0, -7)], [0], 2, 1),
            ([(-1, 5), (1, 5), (1, -3)], [0], -3, 1),
            ([(-1, 5), (1, 5), (-1, 3), (1, 2)], [1], 0, 1),
            ([(-1, 5), (1, 5), (-1, -2)], [0], 2, 1),
            ([(-1, -5), (0, -8)], [0], -3, 1),
            ([(-1, -5), (0, 8), (0, -3)], [0], 5, 1),
            ([(-1, -5), (0, 3)], [0], 2, 1)])

    def test_parteds_in_one_another(self):
        rule = Parted((1, 1), Parted((2, 2), Straight([1], 0), Straight([2], 0)),
                      Parted((3, 3), Straight([3], 0), Straight([4], 0)))
        self.assertEqual(plain_pieces(rule, 1), [
            ([(1, 1), (2, 2)], [1], 0, 1), ([(1, 1), (-2, -2)], [2], 0, 1),
            ([(-1, -1), (3, 3)], [3], 0, 1), ([(-1, -1), (-3, -3)], [4], 0, 1)])

    def test_rows_are_tuples_and_lists_are_lists(self):
        rule = Stopped(Parted((1, 9), Straight([2], 1, 3), Straight([5], 0)), 0, 4)
        for rows, straight in pieces(rule, 1):
            self.assertIs(type(rows), list)
            self.assertEqual({type(row) for row in rows}, {tuple})
            self.assertIs(type(straight), Straight)
            self.assertIs(type(straight.numbers), list)

    def test_told_lists_are_the_askers_own(self):
        rule = Parted((1, 9), Stopped(Straight([2], 1, 3), 0, 4), Straight([5], 0))
        first = plain_pieces(rule, 1)
        told = pieces(rule, 1)
        for rows, straight in told:
            rows.append((7, 7))
        told.clear()
        self.assertEqual(plain_pieces(rule, 1), first)
        straight = Straight([1], 2)
        pieces(straight, 1)[0][0].append((1, 1))
        self.assertEqual(plain_pieces(straight, 1), [([], [1], 2, 1)])

    def test_long_numbers(self):
        self.assertEqual(plain_pieces(Stopped(Straight([LONG], LONG_OTHER, LONG), -LONG, LONG), 1), [
            ([(LONG, -LONG * LONG - LONG_OTHER)], [0], -LONG, 1),
            ([(-LONG, LONG * LONG + LONG_OTHER), (LONG, LONG * LONG - LONG_OTHER)], [LONG], LONG_OTHER, LONG),
            ([(-LONG, LONG_OTHER - LONG * LONG)], [0], LONG, 1)])

    def test_at_each_point_some_piece_tells_what_the_rule_tells(self):
        source = drawn(5)
        for turn in range(120):
            many = source.randint(1, 2)
            rule = draw_rule(source, many, 3)
            told = pieces(rule, many) if count_pieces(rule) <= 60 else []
            values = [(number, 2) if number % 2 else (number // 2, 1) for number in range(-7, 8)]
            for point in [list(point) for point in itertools.product(values, repeat=many)] if told else []:
                self.check_point(rule, told, point)

    def check_point(self, rule, told, point):
        wanted = rule.steering(point)
        self.assertIn(wanted, [straight.steering(point) for rows, straight in told if lies_in(rows, point)])
        exact_point = [exact(value) for value in point]
        for rows, straight in told:
            if all(exact_along(row[:-1], exact_point) < row[-1] for row in rows):
                self.assertEqual(straight.steering(point), wanted)


def count_pieces(rule):
    if isinstance(rule, Straight):
        return 1
    if isinstance(rule, Stopped):
        return 3 * count_pieces(rule.rule)
    return count_pieces(rule.rule) + count_pieces(rule.other)


def nested_stops(depth, inner):
    for turn in range(depth):
        inner = Stopped(inner, -1, 1)
    return inner


class TooManyPiecesTest(Case):
    def test_sixty_are_told(self):
        for many in (1, 2, 3):
            self.assertEqual(len(pieces(rules_of(60, many), many)), 60)
        self.assertEqual(len(pieces(Stopped(rules_of(20), 0, 1), 1)), 60)
        self.assertEqual(len(pieces(nested_stops(3, Straight([1], 0)), 1)), 27)

    def test_more_are_refused(self):
        for rule in (rules_of(61), rules_of(100), Stopped(rules_of(21), 0, 1), nested_stops(4, Straight([1], 0)),
                     nested_stops(12, Straight([1], 0)), Parted((1, 1), rules_of(59), rules_of(2)),
                     Parted((1, 1), nested_stops(11, Straight([1], 0)), Straight([1], 0))):
            self.refused(TooMany, pieces, rule, 1)

    def test_what_is_no_rule_is_refused_ahead_of_that(self):
        self.refused(BadRule, pieces, nested_stops(11, Straight([1], 0, 0)), 1)
        self.refused(BadRule, pieces, nested_stops(5, Straight([1, 2], 0)), 1)
        self.refused(BadRule, pieces, Parted((1, 1), rules_of(61), Straight([1], None)), 1)
        self.refused(BadRule, pieces, Parted((1, 1), Straight([1], None), rules_of(61)), 1)
        self.refused(BadRule, pieces, Parted((1, 1, 1), rules_of(61), rules_of(61)), 1)
        self.refused(BadRule, pieces, rules_of(61), 2)


class BadRuleTest(Case):
    def bad(self, rule, many=2):
        good = Straight([1] * many, 0)
        row = tuple([1] * (many + 1))
        for wrong in (rule, Stopped(rule, 0, 1), Parted(row, rule, good), Parted(row, good, rule),
                      Stopped(Parted(row, good, Stopped(rule, 0, 1)), 0, 1)):
            self.refused(BadRule, pieces, wrong, many)

    def test_nothing_is_wrong_with_the_others(self):
        good = Straight([1, 2], 0)
        for rule in (good, Stopped(good, 0, 0), Stopped(good, -1, 1), Parted((0, 0, 0), good, good)):
            self.assertTrue(pieces(rule, 2))

    def test_something_else_than_a_rule(self):
        for wrong in (None, 0, 1, True, "straight", [], (), {}, [1, 2], Straight, Rule, object(), Rule()):
            with self.subTest(wrong=wrong):
                self.bad(wrong)

    def test_numbers_of_another_length_or_kind(self):
        for numbers in NOT_LISTS + ([], [1], [1, 2, 3], (1, 2)):
            with self.subTest(numbers=numbers):
                self.bad(Straight(numbers, 0))
        for value in NOT_WHOLE:
            self.bad(Straight([value, 1], 0))
            self.bad(Straight([1, value], 0))
        for many in (1, 2, 3):
            for other in {1, 2, 3, 4} - {many}:
                self.bad(Straight([1] * other, 0), many)

    def test_add_and_divisor(self):
        for value in NOT_WHOLE:
            self.bad(Straight([1, 2], value))
            self.bad(Straight([1, 2], 0, value))
        for divisor in (0, -1, -LONG):
            self.bad(Straight([1, 2], 0, divisor))

    def test_low_and_high(self):
        good = Straight([1, 2], 0)
        for value in NOT_WHOLE:
            self.bad(Stopped(good, value, 9))
            self.bad(Stopped(good, -9, value))
            self.bad(Stopped(good, value, value))
        for low, high in ((1, 0), (0, -1), (LONG, LONG - 1)):
            self.bad(Stopped(good, low, high))

    def test_rows(self):
        good = Straight([1, 2], 0)
        for row in NOT_LISTS + ([], [1, 2, 3], (1, 2), (1, 2, 3, 4), ((1, 2, 3),), (1,)):
            with self.subTest(row=row):
                self.bad(Parted(row, good, good))
        for value in NOT_WHOLE:
            for place in range(3):
                row = [1, 2, 3]
                row[place] = value
                self.bad(Parted(tuple(row), good, good))


if __name__ == "__main__":
    unittest.main()
