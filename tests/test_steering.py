"""Points 3, 13, 14 and 15: things steered by a rule, by rounded numbers, and late."""

import unittest
from fractions import Fraction

from helpers import (
    LONG, LONG_OTHER, NOT_WHOLE, Case, all_fields, drawn, draw_point, draw_push_values, draw_rule, draw_thing, exact,
    exact_point, told, whole_thing)
from steadyhand.errors import BadRule, NoRun, TooMany
from steadyhand.rows import lies_in
from steadyhand.rules import Parted, Rule, Stopped, Straight, pieces
from steadyhand.runs import walked
from steadyhand.steering import late, rounded, steered
from steadyhand.things import Mode, Thing

# No two of its numbers are the same, so that a number in a wrong place shows.
FIRST = Mode([(1, 2, 3)], [[4, 5], [6, 7]], [8, 9], [[10], [11]], [12, 13], 14)
SECOND = Mode([], [[15, 16], [17, 18]], [19, 0], [[20], [21]], [22, 23], 24)
TWO = Thing(2, [(-5, 6)], [FIRST, SECOND])
NOT_RULES = (None, 0, True, "straight", [], (), {}, Straight, Rule(), [1, 2])


def parted_of(count, many):
    """A rule of so many pieces, not deeper than need be."""
    if count == 1:
        return Straight([1] * many, 0)
    half = count // 2
    return Parted(tuple([1] * many) + (count,), parted_of(half, many), parted_of(count - half, many))


def one_mode(many, wide=0, count=1):
    mode = Mode([], [[1] * many] * many, [1] * many, [[1] * wide] * many, [0] * many, 1)
    return Thing(many, [(-1, 1)] * wide, [mode] * count)


def bad_rules(many):
    good = Straight([1] * many, 0)
    row = tuple([1] * (many + 1))
    return NOT_RULES + (
        Straight([1] * (many + 1), 0), Straight([1] * (many - 1), 0), Straight([1] * many, 0, 0),
        Straight([1] * many, True), Straight(tuple([1] * many), 0), Stopped(good, 1, 0), Stopped(None, 0, 1),
        Parted(row[1:], good, good),
        Parted(row + (1,), good, good), Parted(list(row), good, good), Parted(row, good, None), Parted(row, None, good))


class SteeredTest(Case):
    def test_modes_by_a_straight(self):
        made = steered(TWO, Straight([2, -3], 5, 7))
        self.assertEqual(made.many, 2)
        self.assertEqual(made.pushes(), [(-5, 6)])
        self.assertEqual(all_fields(made), [
            ([(1, 2, 3)], [[28 + 16, 35 - 24], [42 + 18, 49 - 27]], [0, 0], [[70], [77]], [84 + 40, 91 + 45], 98),
            ([], [[105 + 38, 112 - 57], [119, 126]], [0, 0], [[140], [147]], [154 + 95, 161], 168)])

    def test_modes_and_pieces_in_their_orders(self):
        rule = Parted((1, 1, 9), Stopped(Straight([1, 0], 0, 2), -1, 4), Straight([0, 1], 3))
        made = steered(TWO, rule)
        wanted = []
        for mode in (FIRST, SECOND):
            for rows, numbers, add, divisor in (
                    ([(1, 1, 9), (1, 0, -2)], [0, 0], -1, 1),
                    ([(1, 1, 9), (-1, 0, 2), (1, 0, 8)], [1, 0], 0, 2),
                    ([(1, 1, 9), (-1, 0, -8)], [0, 0], 4, 1),
                    ([(-1, -1, -9)], [0, 1], 3, 1)):
                wanted.append((
                    mode.rows + rows,
                    [[divisor * mode.nexts[i][j] + mode.steer[i] * numbers[j] for j in range(2)] for i in range(2)],
                    [0, 0],
                    [[divisor * number for number in part] for part in mode.push],
                    [divisor * mode.add[i] + mode.steer[i] * add for i in range(2)],
                    divisor * mode.divisor))
        self.assertEqual(all_fields(made), wanted)

    def test_one_and_three_numbers_without_pushes(self):
        thing = Thing(1, [], [Mode([], [[3]], [2], [[]], [1], 5)])
        self.assertEqual(all_fields(steered(thing, Straight([-1], 4, 2))), [([], [[4]], [0], [[]], [10], 10)])
        thing = Thing(3, [], [Mode([], [[1, 0, 0], [0, 1, 0], [0, 0, 1]], [1, 0, -1], [[], [], []], [0, 0, 0], 1)])
        self.assertEqual(all_fields(steered(thing, Straight([1, 2, 3], 4))), [
            ([], [[2, 2, 3], [0, 1, 0], [-1, -2, -2]], [0, 0, 0], [[], [], []], [4, 0, -4], 1)])

    def test_closed(self):
        source = drawn(1)
        for turn in range(50):
            many = source.randint(1, 3)
            self.assertIs(steered(draw_thing(source, many, 1), draw_rule(source, many, 2)).is_closed(), True)

    def test_a_closed_thing_is_steered_too(self):
        closed = Thing(1, [], [Mode([], [[1]], [0], [[]], [1], 1)])
        self.assertEqual(all_fields(steered(closed, Straight([5], 7, 3))), [([], [[3]], [0], [[]], [3], 3)])

    def test_the_thing_and_the_rule_stay(self):
        before = whole_thing(TWO)
        rule = Stopped(Straight([2, -3], 5, 7), 0, 1)
        told_pieces = [(rows, straight.numbers) for rows, straight in pieces(rule, 2)]
        made = steered(TWO, rule)
        made.modes()[0].rows.append((9, 9, 9))
        made.modes()[0].nexts[0][0] = 99
        self.assertEqual(whole_thing(TWO), before)
        self.assertEqual([(rows, straight.numbers) for rows, straight in pieces(rule, 2)], told_pieces)
        self.assertIs(TWO.is_closed(), False)

    def test_bad_rules(self):
        for many in (1, 2, 3):
            for rule in bad_rules(many):
                self.refused(BadRule, steered, one_mode(many), rule)
                self.refused(BadRule, steered, one_mode(many, count=40), rule)

    def test_too_many_modes(self):
        self.assertEqual(len(steered(one_mode(1), parted_of(40, 1)).modes()), 40)
        self.assertEqual(len(steered(one_mode(2, count=20), parted_of(2, 2)).modes()), 40)
        self.assertEqual(len(steered(one_mode(2, count=40), Straight([1, 1], 0)).modes()), 40)
        for count, wide in ((1, 41), (41, 1), (21, 2), (2, 21), (14, 3), (1, 60), (1, 61), (40, 60)):
            if count <= 40:
                self.refused(TooMany, steered, one_mode(1, count=count), parted_of(wide, 1))

    def test_bad_rules_ahead_of_too_many(self):
        bad = Straight([1], 0, 0)
        self.refused(BadRule, steered, one_mode(1, count=40), Parted((1, 1), parted_of(60, 1), bad))
        self.refused(BadRule, steered, one_mode(1, count=40), Stopped(bad, 0, 1))
        self.refused(BadRule, steered, one_mode(1), parted_of(61, 2))

    def test_long_numbers(self):
        thing = Thing(1, [(-LONG, LONG)], [Mode([], [[LONG]], [LONG_OTHER], [[1]], [-LONG], LONG)])
        self.assertEqual(all_fields(steered(thing, Straight([LONG], LONG_OTHER, LONG_OTHER))), [(
            [], [[2 * LONG * LONG_OTHER]], [0], [[LONG_OTHER]], [LONG_OTHER * LONG_OTHER - LONG * LONG_OTHER],
            LONG * LONG_OTHER)])


def steered_run(source, thing, rule, point, length):
    """A run of the thing in which each steering is what the rule tells, as far as modes can be taken."""
    run = []
    for turn in range(length):
        fit = [number for number, mode in enumerate(thing.modes()) if lies_in(mode.rows, point)]
        if not fit:
            break
        step = (source.choice(fit), rule.steering(point), draw_push_values(source, thing))
        run.append(step)
        point = walked(thing, point, [step])[-1]
    return run


class SteeredRunsTest(Case):
    def test_runs_steered_by_the_rule_are_runs_of_the_steered_thing(self):
        source = drawn(11)
        for turn in range(80):
            many = source.randint(1, 3)
            thing = draw_thing(source, many, source.randint(0, 2), modes=2, size=3, rows=source.randint(0, 1))
            rule = draw_rule(source, many, 2)
            told_pieces = pieces(rule, many)
            made = steered(thing, rule)
            point = draw_point(source, many, 3)
            run = steered_run(source, thing, rule, point, 4)
            points = walked(thing, point, run)
            other = []
            for (mode, steering, pushes), at in zip(run, points):
                piece = [number for number, (rows, straight) in enumerate(told_pieces)
                         if lies_in(rows, at) and straight.steering(at) == steering][0]
                other.append((mode * len(told_pieces) + piece, (0, 1), pushes))
            self.assertEqual(walked(made, point, other), points)

    def test_runs_of_the_steered_thing_are_runs_of_the_thing(self):
        source = drawn(12)
        steps = 0
        for turn in range(80):
            many = source.randint(1, 2)
            thing = draw_thing(source, many, source.randint(0, 2), modes=2, size=3, rows=source.randint(0, 1))
            rule = draw_rule(source, many, 2)
            told_pieces = pieces(rule, many)
            made = steered(thing, rule)
            point = draw_point(source, many, 3)
            run = steered_run(source, made, Straight([0] * many, 0), point, 4)
            points = walked(made, point, run)
            other = []
            for (mode, steering, pushes), at in zip(run, points):
                rows, straight = told_pieces[mode % len(told_pieces)]
                self.assertTrue(lies_in(rows, at))
                other.append((mode // len(told_pieces), straight.steering(at), pushes))
            self.assertEqual(walked(thing, point, other), points)
            steps += len(run)
        self.assertGreater(steps, 100)

    def test_a_mode_can_be_taken_just_where_its_rows_and_the_pieces_hold(self):
        thing = Thing(1, [], [Mode([(1, 10)], [[1]], [1], [[]], [0], 1)])
        made = steered(thing, Stopped(Straight([-1], 0), -2, 2))
        self.assertEqual(walked(made, [(5, 1)], [(0, (0, 1), [])]), [[(5, 1)], [(3, 1)]])
        self.assertEqual(walked(made, [(2, 1)], [(0, (0, 1), [])]), walked(made, [(2, 1)], [(1, (0, 1), [])]))
        for mode in (1, 2):
            self.refused(NoRun, walked, made, [(5, 1)], [(mode, (0, 1), [])])
        self.refused(NoRun, walked, made, [(11, 1)], [(0, (0, 1), [])])


class RoundedTest(Case):
    def test_modes_and_pushes(self):
        made = rounded(TWO, Straight([2, -3], 5, 7), 10)
        self.assertEqual(made.many, 2)
        self.assertEqual(made.pushes(), [(-5, 6), (0, 10), (0, 10)])
        self.assertEqual(all_fields(made), [
            ([(1, 2, 3)], [[28 + 16, 35 - 24], [42 + 18, 49 - 27]], [0, 0],
             [[70, -16, 24], [77, -18, 27]], [84 + 40, 91 + 45], 98),
            ([], [[105 + 38, 112 - 57], [119, 126]], [0, 0], [[140, -38, 57], [147, 0, 0]], [154 + 95, 161], 168)])
        self.assertIs(made.is_closed(), True)

    def test_one_number_and_no_pushes(self):
        thing = Thing(1, [], [Mode([], [[3]], [2], [[]], [1], 5)])
        made = rounded(thing, Straight([-1], 4, 2), 1)
        self.assertEqual(made.pushes(), [(0, 1)])
        self.assertEqual(all_fields(made), [([], [[4]], [0], [[2]], [10], 10)])

    def test_the_thing_stays(self):
        before = whole_thing(TWO)
        rounded(TWO, Straight([2, -3], 5, 7), 10).modes()[0].push[0].append(3)
        self.assertEqual(whole_thing(TWO), before)

    def test_what_is_no_straight(self):
        for many in (1, 2, 3):
            good = Straight([1] * many, 0)
            for rule in bad_rules(many) + (Stopped(good, -1, 1), Parted(tuple([1] * (many + 1)), good, good)):
                self.refused(BadRule, rounded, one_mode(many), rule, 1)

    def test_sizes_that_are_none(self):
        for size in NOT_WHOLE + (0, -1, -LONG):
            self.refused(BadRule, rounded, one_mode(1), Straight([1], 0), size)
        self.assertEqual(rounded(one_mode(1), Straight([1], 0), LONG).pushes(), [(0, LONG)])

    def test_too_many_pushes(self):
        for many in (1, 2, 3):
            straight = Straight([1] * many, 0)
            self.assertEqual(len(rounded(one_mode(many, 6 - many), straight, 1).pushes()), 6)
            for wide in range(7 - many, 7):
                self.refused(TooMany, rounded, one_mode(many, wide), straight, 1)
                self.refused(BadRule, rounded, one_mode(many, wide), straight, 0)
                self.refused(BadRule, rounded, one_mode(many, wide), Stopped(straight, 0, 1), 1)

    def test_forty_modes(self):
        self.assertEqual(len(rounded(one_mode(1, 0, 40), Straight([1], 0), 1).modes()), 40)

    def test_runs_by_rounded_readings_are_runs_of_it(self):
        source = drawn(13)
        for turn in range(80):
            many = source.randint(1, 3)
            thing = draw_thing(source, many, source.randint(0, 3), modes=2, size=3)
            straight = draw_rule(source, many, 0)
            size = source.randint(1, 3)
            made = rounded(thing, straight, size)
            points = [draw_point(source, many)]
            run = []
            for step in range(4):
                read = [size * (exact(value) // size) for value in points[-1]]
                pushes = draw_push_values(source, thing)
                mode = source.randint(0, 1)
                steering = straight.steering([told(value) for value in read])
                points.append(walked(thing, points[-1], [(mode, steering, pushes)])[-1])
                left = [told(exact(value) - part) for value, part in zip(points[-2], read)]
                run.append((mode, (0, 1), pushes + left))
            self.assertEqual(walked(made, points[0], run), points)


class LateTest(Case):
    def test_modes(self):
        made = late(TWO, Straight([2, -3], 5, 7))
        self.assertEqual(made.many, 3)
        self.assertEqual(made.pushes(), [(-5, 6)])
        self.assertEqual(all_fields(made), [
            ([(1, 2, 0, 3)], [[28, 35, 56], [42, 49, 63], [28, -42, 0]], [0, 0, 0], [[70], [77], [0]],
             [84, 91, 70], 98),
            ([], [[105, 112, 133], [119, 126, 0], [48, -72, 0]], [0, 0, 0], [[140], [147], [0]],
             [154, 161, 120], 168)])
        self.assertIs(made.is_closed(), True)

    def test_modes_and_pieces_in_their_orders(self):
        made = late(TWO, Stopped(Straight([1, 0], 0, 2), -1, 4))
        self.assertEqual([mode.rows for mode in made.modes()], [
            [(1, 2, 0, 3), (1, 0, 0, -2)], [(1, 2, 0, 3), (-1, 0, 0, 2), (1, 0, 0, 8)], [(1, 2, 0, 3), (-1, 0, 0, -8)],
            [(1, 0, 0, -2)], [(-1, 0, 0, 2), (1, 0, 0, 8)], [(-1, 0, 0, -8)]])
        self.assertEqual([mode.divisor for mode in made.modes()], [14, 28, 14, 24, 48, 24])
        self.assertEqual([mode.nexts[2] for mode in made.modes()],
                         [[0, 0, 0], [14, 0, 0], [0, 0, 0], [0, 0, 0], [24, 0, 0], [0, 0, 0]])
        self.assertEqual([mode.add[2] for mode in made.modes()], [-14, 0, 56, -24, 0, 96])

    def test_one_number_and_no_pushes(self):
        thing = Thing(1, [], [Mode([], [[3]], [2], [[]], [1], 5)])
        made = late(thing, Straight([-1], 4, 2))
        self.assertEqual(made.many, 2)
        self.assertEqual(all_fields(made), [([], [[6, 4], [-5, 0]], [0, 0], [[], []], [2, 20], 10)])

    def test_the_thing_stays(self):
        before = whole_thing(TWO)
        late(TWO, Straight([2, -3], 5, 7)).modes()[0].nexts[0].append(3)
        self.assertEqual(whole_thing(TWO), before)

    def test_refusals_in_their_order(self):
        for many in (1, 2, 3):
            for rule in bad_rules(many):
                self.refused(BadRule, late, one_mode(many), rule)
        for rule in (Straight([1, 1, 1], 0), parted_of(60, 3), parted_of(61, 3)):
            self.refused(TooMany, late, one_mode(3), rule)
        self.refused(TooMany, late, one_mode(1), parted_of(41, 1))
        self.refused(TooMany, late, one_mode(1), parted_of(61, 1))
        self.refused(TooMany, late, one_mode(2, count=21), parted_of(2, 2))
        self.refused(BadRule, late, one_mode(2, count=40), Stopped(Straight([1], 0), 0, 1))
        self.assertEqual(len(late(one_mode(2, count=20), parted_of(2, 2)).modes()), 40)
        self.assertEqual(len(late(one_mode(1), parted_of(40, 1)).modes()), 40)

    def test_runs_steered_by_what_the_rule_told_a_turn_ago(self):
        source = drawn(14)
        for turn in range(80):
            many = source.randint(1, 2)
            thing = draw_thing(source, many, source.randint(0, 2), modes=2, size=3)
            rule = draw_rule(source, many, 2)
            told_pieces = pieces(rule, many)
            made = late(thing, rule)
            points = [draw_point(source, many, 3)]
            steerings = [(source.randint(-3, 3), 1)]
            run = []
            for step in range(4):
                at = points[-1]
                mode = source.randint(0, 1)
                pushes = draw_push_values(source, thing)
                points.append(walked(thing, at, [(mode, steerings[-1], pushes)])[-1])
                steerings.append(rule.steering(at))
                piece = [number for number, (rows, straight) in enumerate(told_pieces)
                         if lies_in(rows, at) and straight.steering(at) == steerings[-1]][0]
                run.append((mode * len(told_pieces) + piece, (0, 1), pushes))
            wanted = [point + [steering] for point, steering in zip(points, steerings)]
            self.assertEqual(walked(made, wanted[0], run), wanted)

    def test_long_numbers(self):
        thing = Thing(1, [], [Mode([], [[LONG]], [1], [[]], [0], LONG)])
        made = late(thing, Straight([LONG_OTHER], LONG, LONG_OTHER))
        start = [(1, LONG), (LONG, 1)]
        behind = walked(made, start, [(0, (0, 1), [])])[1]
        self.assertEqual(exact_point(behind), [
            Fraction(1, LONG) + 1, Fraction(1, LONG) + Fraction(LONG, LONG_OTHER)])


if __name__ == "__main__":
    unittest.main()
