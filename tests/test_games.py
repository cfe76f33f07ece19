"""Points 3, 31, 32, 33 and 34: held rooms, the holder's steering, the foe's pushes."""

import itertools
import unittest
from fractions import Fraction
from math import gcd

from helpers import (
    LONG, Case, drawn, draw_between, draw_box, draw_point, draw_room, draw_thing, exact, exact_along, exact_behind,
    exact_lies_in, exact_point, told)
from paper_helpers import around_0, between
from steadyhand.errors import NotPlain, TooMany
from steadyhand.fractions import is_fraction
from steadyhand.games import foe, held_rooms, holder
from steadyhand.most import most
from steadyhand.rows import lies_in
from steadyhand.runs import walked
from steadyhand.things import Mode, Thing

# The number, the steering and a push from -1 to 1 added up.
ADDING = Thing(1, [(-1, 1)], [Mode([], [[1]], [1], [[1]], [0], 1)])
# Doubled ahead of that.
DOUBLING = Thing(1, [(-1, 1)], [Mode([], [[2]], [1], [[1]], [0], 1)])


def tidied_by_hand(room):
    ways = []
    best = {}
    shut = []
    for row in room:
        common = gcd(*row[:-1])
        if common == 0:
            shut = [row[:-1] + (-1,)] if row[-1] < 0 else shut
            continue
        way = tuple(number // common for number in row[:-1])
        if way not in best:
            ways.append(way)
        best[way] = min(best.get(way, Fraction(row[-1], common)), Fraction(row[-1], common))
    return [tuple(number * best[way].denominator for number in way) + (best[way].numerator,) for way in ways] + shut


def next_held(thing, safe, low, high, room):
    """K(j + 1) of Kj, sentence by sentence of point 31."""
    mode = thing.modes()[0]
    many = thing.many
    rows = []
    for row in room:
        numbers = [sum(row[i] * mode.nexts[i][j] for i in range(many)) for j in range(many)]
        bound = mode.divisor * row[-1] - sum(row[i] * mode.add[i] for i in range(many))
        for j, (least, greatest) in enumerate(thing.pushes()):
            number = sum(row[i] * mode.push[i][j] for i in range(many))
            bound -= number * greatest if number > 0 else number * least
        rows.append(numbers + [sum(row[i] * mode.steer[i] for i in range(many)), bound])
    rows.append([0] * many + [1, high])
    rows.append([0] * many + [-1, -low])
    made = [tuple(row[:many] + row[-1:]) for row in rows if row[many] == 0]
    for first in rows:
        for second in rows:
            if first[many] > 0 and second[many] < 0:
                both = [-second[many] * one + first[many] * other for one, other in zip(first, second)]
                made.append(tuple(both[:many] + both[-1:]))
    return tidied_by_hand(safe + made)


def rooms_by_hand(thing, safe, low, high, turns):
    rooms = [tidied_by_hand(safe)]
    for turn in range(turns):
        rooms.append(next_held(thing, safe, low, high, rooms[-1]))
    return rooms


def good_steerings(thing, room, low, high, point):
    """The least and the greatest steering that lead into the room whatever the pushes are; None where there is none."""
    mode = thing.modes()[0]
    least, greatest = Fraction(low), Fraction(high)
    for pushes in itertools.product(*thing.pushes()):
        still = exact_behind(mode, point, 0, pushes)
        moved = exact_behind(mode, point, 1, pushes)
        for row in room:
            base = exact_along(row[:-1], still)
            slope = exact_along(row[:-1], moved) - base
            if slope > 0:
                greatest = min(greatest, (row[-1] - base) / slope)
            elif slope < 0:
                least = max(least, (row[-1] - base) / slope)
            elif base > row[-1]:
                return None
    return (least, greatest) if least <= greatest else None


def draw_game(source, size=2):
    many = source.randint(1, 2)
    thing = draw_thing(source, many, source.randint(0, 2), size=size)
    safe = draw_box(source, many, 6) + draw_room(source, many, 2, source.randint(0, 1), low=0)
    low = source.randint(-4, 0)
    return thing, safe, low, low + source.randint(0, 6)


class HeldRoomsTest(Case):
    def test_row_by_row(self):
        self.assertEqual(held_rooms(ADDING, between(-10, 10), -2, 2, 2), [between(-10, 10)] * 3)
        # It grows by 10 in a turn where it is 10, and only 2 can be taken off: 2 x - 2 + 1 is 10 at most.
        self.assertEqual(held_rooms(DOUBLING, between(-10, 10), -2, 2, 1), [
            between(-10, 10), [(2, 11), (-2, 11)]])
        self.assertEqual(held_rooms(DOUBLING, between(-10, 10), -2, 2, 3), [
            between(-10, 10), [(2, 11), (-2, 11)], [(4, 13), (-4, 13)], [(8, 17), (-8, 17)]])

    def test_turns_0(self):
        self.assertEqual(held_rooms(ADDING, [(2, 4), (-1, 3), (1, 7), (0, 5)], -2, 2, 0), [[(1, 2), (-1, 3)]])
        self.assertEqual(held_rooms(ADDING, [], -2, 2, 0), [[]])

    def test_a_safe_room_without_rows(self):
        self.assertEqual(held_rooms(ADDING, [], -2, 2, 3), [[]] * 4)

    def test_nowhere(self):
        # The pushes are stronger than the steering.
        strong = Thing(1, [(-3, 3)], [Mode([], [[1]], [1], [[1]], [0], 1)])
        rooms = held_rooms(strong, between(-1, 1), -1, 1, 1)
        self.assertEqual(rooms, [between(-1, 1), [(1, -1), (-1, -1), (0, -1)]])

    def test_a_closed_thing(self):
        closed = Thing(1, [(-1, 1)], [Mode([], [[2]], [0], [[1]], [0], 1)])
        self.assertEqual(held_rooms(closed, between(-10, 10), -2, 2, 2), [
            between(-10, 10), [(2, 9), (-2, 9)], [(4, 7), (-4, 7)]])

    def test_no_pushes(self):
        free = Thing(1, [], [Mode([], [[2]], [1], [[]], [0], 1)])
        self.assertEqual(held_rooms(free, between(-10, 10), -2, 2, 1), [between(-10, 10), between(-6, 6)])

    def test_steerings_that_are_not_even(self):
        # Half of 3 x + u + v + 5, the steering from 1 to 3: upward 1 counts, downward 3.
        thing = Thing(1, [(0, 1)], [Mode([], [[3]], [1], [[1]], [5], 2)])
        self.assertEqual(held_rooms(thing, [(1, 4), (-1, 6)], 1, 3, 1), [[(1, 4), (-1, 6)], [(3, 1), (-1, 6)]])

    def test_one_steering_alone(self):
        self.assertEqual(held_rooms(DOUBLING, between(-10, 10), 1, 1, 1), [between(-10, 10), [(1, 4), (-1, 5)]])

    def test_drawn_games_row_by_row(self):
        source = drawn(101)
        checked = 0
        for turn in range(120):
            thing, safe, low, high = draw_game(source)
            wanted = rooms_by_hand(thing, safe, low, high, 2)
            if max(len(room) for room in wanted) <= 60:
                checked += 1
                before = list(safe)
                self.assertEqual(held_rooms(thing, safe, low, high, 2), wanted)
                self.assertEqual(safe, before)
            else:
                self.refused(TooMany, held_rooms, thing, safe, low, high, 2)
        self.assertGreater(checked, 80)

    def test_three_numbers(self):
        source = drawn(102)
        for turn in range(20):
            thing = draw_thing(source, 3, 1, size=2)
            safe = around_0(3, 3)
            self.assertEqual(held_rooms(thing, safe, -2, 2, 1), rooms_by_hand(thing, safe, -2, 2, 1))

    def test_six_turns(self):
        self.assertEqual(held_rooms(DOUBLING, between(-10, 10), -2, 2, 6),
                         rooms_by_hand(DOUBLING, between(-10, 10), -2, 2, 6))

    def test_just_the_points_from_which_it_can_be_held(self):
        source = drawn(103)
        seen = {True: 0, False: 0}
        for turn in range(60):
            thing, safe, low, high = draw_game(source)
            if max(len(room) for room in rooms_by_hand(thing, safe, low, high, 2)) > 60:
                continue
            rooms = held_rooms(thing, safe, low, high, 2)
            for other in range(12):
                point = exact_point(draw_point(source, thing.many, 5))
                for number in (1, 2):
                    wanted = (exact_lies_in(safe, point)
                              and good_steerings(thing, rooms[number - 1], low, high, point) is not None)
                    seen[wanted] += 1
                    self.assertIs(exact_lies_in(rooms[number], point), wanted)
        self.assertGreater(min(seen.values()), 50)

    def test_long_numbers(self):
        thing = Thing(1, [(-LONG, LONG)], [Mode([], [[2]], [1], [[1]], [0], 1)])
        self.assertEqual(held_rooms(thing, between(-10 * LONG, 10 * LONG), -2 * LONG, 2 * LONG, 1)[1],
                         [(2, 11 * LONG), (-2, 11 * LONG)])

    def test_told_lists_are_the_askers_own(self):
        safe = between(-10, 10)
        rooms = held_rooms(ADDING, safe, -2, 2, 1)
        rooms[0].append(None)
        rooms[1].clear()
        rooms.clear()
        self.assertEqual(safe, between(-10, 10))
        self.assertEqual(held_rooms(ADDING, safe, -2, 2, 1), [between(-10, 10)] * 2)


def fan(count):
    """Rows of so many directions, all with points in common."""
    return [(place, 1, 100) for place in range(count)]


class RefusedTest(Case):
    STILL = Thing(2, [], [Mode([], [[1, 0], [0, 1]], [0, 0], [[], []], [0, 0], 1)])
    MOVED = Thing(2, [], [Mode([], [[1, 0], [0, 1]], [0, 0], [[], []], [1, 0], 1)])
    SLID = Thing(2, [], [Mode([], [[1, 0], [100, 1]], [0, 0], [[], []], [0, 0], 1)])

    def test_sixty_rows_are_told(self):
        self.assertEqual([len(room) for room in held_rooms(self.STILL, fan(60), 0, 1, 2)], [60, 60, 60])
        self.assertEqual(len(held_rooms(self.STILL, fan(60) + fan(60), 0, 1, 0)[0]), 60)

    def test_more_than_sixty_rows(self):
        for turns in (0, 1, 3):
            self.refused(TooMany, held_rooms, self.STILL, fan(61), 0, 1, turns)

    def test_more_than_sixty_rows_later(self):
        # The slide makes of each direction another one.
        self.assertEqual(len(held_rooms(self.SLID, fan(31), 0, 1, 0)[0]), 31)
        self.refused(TooMany, held_rooms, self.SLID, fan(31), 0, 1, 1)
        self.assertEqual([len(room) for room in held_rooms(self.SLID, fan(30), 0, 1, 1)], [30, 60])
        self.refused(TooMany, held_rooms, self.SLID, fan(30), 0, 1, 2)

    def test_not_plain_ahead_of_that(self):
        ruled = Thing(2, [], [Mode([(0, 0, 0)], [[1, 0], [0, 1]], [0, 0], [[], []], [0, 0], 1)])
        twice = Thing(2, [], self.STILL.modes() * 2)
        point = [(0, 1), (0, 1)]
        for thing in (ruled, twice):
            for safe in ([], fan(3), fan(61)):
                self.refused(NotPlain, held_rooms, thing, safe, 0, 1, 1)
                self.refused(NotPlain, holder, thing, safe, 0, 1, 1, point)
                self.refused(NotPlain, foe, thing, safe, 0, 1, 1, point, (0, 1))

    def test_the_holder_and_the_foe_refuse_as_the_held_rooms_do(self):
        for point in ([(0, 1), (0, 1)], [(LONG, 1), (LONG, 1)]):
            for thing, safe, turns in ((self.STILL, fan(61), 1), (self.SLID, fan(31), 1), (self.SLID, fan(30), 2)):
                self.refused(TooMany, holder, thing, safe, 0, 1, turns, point)
                self.refused(TooMany, foe, thing, safe, 0, 1, turns, point, (0, 1))
            holder(self.SLID, fan(30), 0, 1, 1, point)
            foe(self.SLID, fan(30), 0, 1, 1, point, (0, 1))


class HolderTest(Case):
    def test_in_the_held_room(self):
        for value in ((9, 1), (10, 1), (-10, 1), (0, 1), (19, 2)):
            steering = holder(ADDING, between(-10, 10), -2, 2, 1, [value])
            self.assertTrue(is_fraction(steering))
            self.assertTrue(-2 <= exact(steering) <= 2)
            self.assertTrue(-10 <= exact(value) + exact(steering) - 1)
            self.assertTrue(exact(value) + exact(steering) + 1 <= 10)
        # On the edge there is just one.
        self.assertEqual(holder(DOUBLING, between(-10, 10), -2, 2, 1, [(11, 2)]), (-2, 1))
        self.assertEqual(holder(DOUBLING, between(-10, 10), -2, 2, 1, [(-11, 2)]), (2, 1))
        self.assertEqual(holder(DOUBLING, between(-1, 1), -2, 2, 1, [(1, 3)]), (-2, 3))

    def test_none_elsewhere(self):
        for value in ((11, 1), (-11, 1), (101, 10)):
            self.assertIsNone(holder(ADDING, between(-10, 10), -2, 2, 1, [value]))
        for value in ((6, 1), (-6, 1), (10, 1), (11 * LONG + 1, 2 * LONG)):
            self.assertIsNone(holder(DOUBLING, between(-10, 10), -2, 2, 1, [value]))
        self.assertIsNotNone(holder(DOUBLING, between(-10, 10), -2, 2, 1, [(5, 1)]))
        self.assertIsNone(holder(DOUBLING, between(-10, 10), -2, 2, 2, [(5, 1)]))

    def test_it_keeps_the_thing_in_the_held_room_of_one_turn_fewer(self):
        source = drawn(104)
        seen = 0
        for turn in range(160):
            thing, safe, low, high = draw_game(source)
            rooms = rooms_by_hand(thing, safe, low, high, 3)
            if max(len(room) for room in rooms) > 60:
                continue
            for turns in (1, 2, 3):
                found = most(rooms[turns], tuple(source.randint(-2, 2) for place in range(thing.many)) + (0,))
                if found[0] == "most":
                    seen += 1
                    self.check_step(thing, safe, low, high, turns, rooms, found[3])
        self.assertGreater(seen, 50)

    def check_step(self, thing, safe, low, high, turns, rooms, point):
        steering = holder(thing, safe, low, high, turns, point)
        self.assertTrue(low <= exact(steering) <= high)
        least, greatest = good_steerings(thing, rooms[turns - 1], low, high, exact_point(point))
        self.assertTrue(least <= exact(steering) <= greatest)
        for pushes in itertools.product(*thing.pushes()):
            step = (0, steering, [told(push) for push in pushes])
            self.assertTrue(lies_in(rooms[turns - 1], walked(thing, point, [step])[-1]))

    def test_turn_by_turn_it_stays_in_the_safe_room(self):
        source = drawn(105)
        for value in ((17, 8), (-17, 8), (0, 1), (2, 1)):
            point = [value]
            for turns in (3, 2, 1):
                steering = holder(DOUBLING, between(-10, 10), -2, 2, turns, point)
                push = source.choice(((-1, 1), (1, 1), draw_between(source, -1, 1)))
                point = walked(DOUBLING, point, [(0, steering, [push])])[-1]
                self.assertTrue(lies_in(between(-10, 10), point))

    def test_a_closed_thing(self):
        closed = Thing(1, [(-1, 1)], [Mode([], [[2]], [0], [[1]], [0], 1)])
        self.assertTrue(3 <= exact(holder(closed, between(-10, 10), 3, 5, 1, [(9, 2)])) <= 5)
        self.assertIsNone(holder(closed, between(-10, 10), 3, 5, 1, [(5, 1)]))

    def test_the_point_and_the_room_stay(self):
        point = [(9, 1)]
        safe = between(-10, 10)
        holder(ADDING, safe, -2, 2, 2, point)
        foe(ADDING, safe, -2, 2, 2, point, (2, 1))
        self.assertEqual((point, safe), ([(9, 1)], between(-10, 10)))


class FoeTest(Case):
    def test_against_a_bad_steering(self):
        self.assertEqual(foe(ADDING, between(-10, 10), -2, 2, 1, [(9, 1)], (1, 1)), [(1, 1)])
        self.assertEqual(foe(ADDING, between(-10, 10), -2, 2, 1, [(-9, 1)], (-1, 1)), [(-1, 1)])
        self.assertEqual(foe(ADDING, between(-10, 10), -2, 2, 1, [(9, 1)], (1, LONG)), [(1, 1)])

    def test_none_where_there_are_none(self):
        self.assertIsNone(foe(ADDING, between(-10, 10), -2, 2, 1, [(9, 1)], (0, 1)))
        self.assertIsNone(foe(ADDING, between(-10, 10), -2, 2, 1, [(0, 1)], (2, 1)))
        self.assertIsNone(foe(ADDING, [], -2, 2, 1, [(0, 1)], (2, 1)))

    def test_outside_the_held_room_there_are_some(self):
        for steering in ((-2, 1), (-1, 1), (0, 1), (1, 1), (2, 1), (-3, 2)):
            for value in ((6, 1), (10, 1), (-6, 1), (-10, 1)):
                self.assertIsNotNone(foe(DOUBLING, between(-10, 10), -2, 2, 1, [value], steering))

    def test_a_thing_without_pushes(self):
        free = Thing(1, [], [Mode([], [[2]], [1], [[]], [0], 1)])
        self.assertEqual(foe(free, between(-10, 10), -2, 2, 1, [(7, 1)], (-2, 1)), [])
        self.assertIsNone(foe(free, between(-10, 10), -2, 2, 1, [(6, 1)], (-2, 1)))

    def test_just_where_some_pushes_lead_out(self):
        source = drawn(106)
        seen = {True: 0, False: 0}
        for turn in range(200):
            thing, safe, low, high = draw_game(source)
            rooms = rooms_by_hand(thing, safe, low, high, 2)
            if max(len(room) for room in rooms) > 60:
                continue
            for other in range(4):
                point = draw_point(source, thing.many, 5)
                steering = draw_between(source, low, high)
                turns = source.randint(1, 2)
                self.check_pushes(thing, safe, low, high, turns, rooms, point, steering, seen)
        self.assertGreater(min(seen.values()), 30)

    def check_pushes(self, thing, safe, low, high, turns, rooms, point, steering, seen):
        pushes = foe(thing, safe, low, high, turns, point, steering)
        some = any(
            not exact_lies_in(rooms[turns - 1],
                              exact_behind(thing.modes()[0], exact_point(point), exact(steering), corner))
            for corner in itertools.product(*thing.pushes()))
        seen[some] += 1
        self.assertIs(pushes is not None, some)
        if lies_in(safe, point) and not lies_in(rooms[turns], point):
            self.assertTrue(some)
        if some:
            self.assertIs(type(pushes), list)
            self.assertEqual(len(pushes), len(thing.pushes()))
            for push, (least, greatest) in zip(pushes, thing.pushes()):
                self.assertIn(push, ((least, 1), (greatest, 1)))
            self.assertFalse(lies_in(rooms[turns - 1], walked(thing, point, [(0, steering, pushes)])[-1]))

    def test_turn_by_turn_it_is_thrown_out(self):
        source = drawn(107)
        seen = 0
        for turn in range(60):
            thing, safe, low, high = draw_game(source)
            rooms = rooms_by_hand(thing, safe, low, high, 3)
            if max(len(room) for room in rooms) > 60:
                continue
            for other in range(10):
                point = draw_point(source, thing.many, 5)
                if lies_in(safe, point) and not lies_in(rooms[3], point):
                    seen += 1
                    self.assertTrue(self.thrown_out(source, thing, safe, low, high, point))
        self.assertGreater(seen, 30)

    def thrown_out(self, source, thing, safe, low, high, point):
        for turns in (3, 2, 1):
            steering = holder(thing, safe, low, high, turns, point) or draw_between(source, low, high)
            pushes = foe(thing, safe, low, high, turns, point, steering)
            point = walked(thing, point, [(0, steering, pushes)])[-1]
            if not lies_in(safe, point):
                return True
        return False


if __name__ == "__main__":
    unittest.main()
