"""Points 2, 7 and 8: modes and things."""

import unittest

from helpers import LONG, NOT_LISTS, NOT_WHOLE, Case, fields
from steadyhand.errors import BadThing, TooMany
from steadyhand.things import Mode, Thing

PARTS = ("rows", "nexts", "steer", "push", "add", "divisor")


def parts(many=2, wide=1):
    """The parts of a mode over so many numbers and pushes, with which nothing is wrong."""
    return {
        "rows": [tuple(range(1, many + 2)), tuple([0] * many + [5])],
        "nexts": [[place + other for other in range(many)] for place in range(many)],
        "steer": [1] * many,
        "push": [[place + 1] * wide for place in range(many)],
        "add": [7] * many,
        "divisor": 3}


def mode(many=2, wide=1, **changed):
    told = parts(many, wide)
    told.update(changed)
    return Mode(*[told[name] for name in PARTS])


def thing(many=2, pushes=None, modes=None):
    pushes = [(-1, 1)] if pushes is None else pushes
    return Thing(many, pushes, [mode(many, len(pushes))] if modes is None else modes)


class TellsTest(Case):
    def test_a_mode_has_its_six_fields(self):
        made = Mode([(1, 2, 3)], [[1, 2], [3, 4]], [5, 6], [[7], [8]], [9, 10], 11)
        self.assertEqual(fields(made), ([(1, 2, 3)], [[1, 2], [3, 4]], [5, 6], [[7], [8]], [9, 10], 11))

    def test_a_thing_tells_many_pushes_and_modes_in_order(self):
        for many in (1, 2, 3):
            for pushes in ([], [(0, 0)], [(3, 5), (-2, -1), (-7, 7)]):
                modes = [mode(many, len(pushes), divisor=divisor) for divisor in (5, 2, 9)]
                made = Thing(many, pushes, modes)
                self.assertEqual(made.many, many)
                self.assertEqual(made.pushes(), pushes)
                self.assertEqual([part.divisor for part in made.modes()], [5, 2, 9])
                self.assertEqual([fields(part) for part in made.modes()], [fields(part) for part in modes])
                self.assertIs(type(made.pushes()), list)
                self.assertIs(type(made.modes()), list)

    def test_closed_where_every_number_of_every_steer_is_0(self):
        closed = mode(steer=[0, 0])
        self.assertIs(thing(modes=[closed]).is_closed(), True)
        self.assertIs(thing(modes=[closed, closed]).is_closed(), True)
        self.assertIs(thing(modes=[mode(steer=[0, 1])]).is_closed(), False)
        self.assertIs(thing(modes=[mode(steer=[-1, 0])]).is_closed(), False)
        self.assertIs(thing(modes=[closed, mode(steer=[0, LONG])]).is_closed(), False)
        self.assertIs(thing(modes=[mode(steer=[1, 0]), closed]).is_closed(), False)
        # Numbers of both signs do not cancel out.
        self.assertIs(thing(modes=[mode(steer=[1, -1])]).is_closed(), False)

    def test_plain_where_there_is_one_mode_without_rows(self):
        self.assertIs(thing(modes=[mode(rows=[])]).is_plain(), True)
        self.assertIs(thing(modes=[mode(rows=[], steer=[0, 0])]).is_plain(), True)
        self.assertIs(thing(modes=[mode(rows=[(0, 0, 0)])]).is_plain(), False)
        self.assertIs(thing(modes=[mode(rows=[]), mode(rows=[])]).is_plain(), False)
        self.assertIs(thing(modes=[mode(rows=[]), mode()]).is_plain(), False)

    def test_long_numbers(self):
        made = Thing(1, [(-LONG, LONG)], [Mode([(LONG, -LONG)], [[LONG]], [-LONG], [[LONG]], [-LONG], LONG)])
        self.assertEqual(made.pushes(), [(-LONG, LONG)])
        self.assertEqual(fields(made.modes()[0]), ([(LONG, -LONG)], [[LONG]], [-LONG], [[LONG]], [-LONG], LONG))


class OwnTest(Case):
    def test_lists_handed_in_and_changed_later(self):
        told = parts()
        made = Mode(*[told[name] for name in PARTS])
        wanted = parts()
        for name in ("rows", "nexts", "steer", "push", "add"):
            told[name].append(told[name][0])
            told[name][0] = 99
        self.assertEqual(fields(made), tuple(wanted[name] for name in PARTS))

    def test_lists_within_lists_handed_in_and_changed_later(self):
        told = parts()
        made = Mode(*[told[name] for name in PARTS])
        told["nexts"][0][0] = 99
        told["nexts"][1].append(99)
        told["push"][0][0] = 99
        told["push"][1].clear()
        wanted = parts()
        self.assertEqual(fields(made), tuple(wanted[name] for name in PARTS))

    def test_lists_of_a_thing_changed_later(self):
        pushes = [(-1, 1), (2, 3)]
        modes = [mode(2, 2), mode(2, 2, divisor=8)]
        made = Thing(2, pushes, modes)
        pushes[0] = (5, 6)
        pushes.append((7, 8))
        modes[0] = None
        modes.pop()
        self.assertEqual(made.pushes(), [(-1, 1), (2, 3)])
        self.assertEqual([part.divisor for part in made.modes()], [3, 8])

    def test_lists_that_were_told_changed_later(self):
        made = thing(modes=[mode(steer=[0, 0], rows=[])])
        made.pushes().append((9, 9))
        made.pushes()[0] = (9, 9)
        made.modes().append(mode())
        made.modes()[0] = mode()
        self.assertEqual(made.pushes(), [(-1, 1)])
        self.assertEqual(len(made.modes()), 1)
        self.assertIs(made.is_closed(), True)
        self.assertIs(made.is_plain(), True)
        self.assertIsNot(made.pushes(), made.pushes())
        self.assertIsNot(made.modes(), made.modes())

    def test_what_is_handed_in_stays(self):
        pushes = [(-1, 1)]
        told = parts()
        modes = [Mode(*[told[name] for name in PARTS])]
        Thing(2, pushes, modes)
        self.assertEqual(pushes, [(-1, 1)])
        self.assertEqual(len(modes), 1)
        self.assertEqual(told, parts())

    def test_a_wrong_list_put_right_later_is_still_wrong(self):
        nexts = [[1, 2], [3]]
        made = mode(nexts=nexts)
        nexts[1].append(4)
        self.refused(BadThing, thing, 2, None, [made])


class MakingAModeTest(Case):
    def test_it_refuses_nothing(self):
        inside_itself = []
        inside_itself.append(inside_itself)
        for value in NOT_WHOLE + NOT_LISTS + (inside_itself, object(), -5, [[[[[[[1]]]]]]]):
            for name in PARTS:
                made = mode(**{name: value})
                self.assertIs(type(made), Mode)
            Mode(value, value, value, value, value, value)

    def test_what_is_no_mode_is_refused_by_the_thing(self):
        inside_itself = []
        inside_itself.append(inside_itself)
        for name in PARTS:
            with self.subTest(name=name):
                self.refused(BadThing, thing, 2, None, [mode(**{name: inside_itself})])


class BadThingTest(Case):
    def bad(self, many=2, pushes=None, modes=None):
        self.refused(BadThing, thing, many, pushes, modes)

    def bad_mode(self, many=2, wide=1, **changed):
        pushes = [(-1, 1)] * wide
        wrong = mode(many, wide, **changed)
        for modes in ([wrong], [mode(many, wide), wrong], [wrong, mode(many, wide)]):
            self.refused(BadThing, Thing, many, pushes, modes)

    def test_nothing_is_wrong_with_the_others(self):
        for many in (1, 2, 3):
            for wide in range(7):
                self.assertEqual(thing(many, [(-1, 1)] * wide).many, many)

    def test_many(self):
        for many in NOT_WHOLE + (0, -1, 4, 5, LONG, -LONG):
            with self.subTest(many=many):
                self.refused(BadThing, Thing, many, [(-1, 1)], [mode()])
        for many in (0, 4):
            self.refused(BadThing, Thing, many, [], [mode(many, 0)])
        # A truth is no 1, also where all else fits.
        self.refused(BadThing, Thing, True, [], [mode(1, 0)])

    def test_many_that_the_modes_do_not_fit(self):
        for many in (1, 2, 3):
            for other in {1, 2, 3} - {many}:
                self.refused(BadThing, Thing, many, [(-1, 1)], [mode(other)])
                self.refused(BadThing, Thing, many, [(-1, 1)], [mode(many), mode(other)])

    def test_pushes(self):
        for pushes in NOT_LISTS + (((-1, 1),), "ab", {(0, 1): 1}):
            with self.subTest(pushes=pushes):
                self.refused(BadThing, Thing, 2, pushes, [mode()])
        self.refused(BadThing, Thing, 2, (), [mode(2, 0)])
        for push in (None, 1, "01", [0, 1], (), (0,), (0, 1, 2), (1, 0), (0, -1), (LONG, LONG - 1), {}):
            with self.subTest(push=push):
                self.bad(pushes=[push])
                self.bad(pushes=[(0, 1), push])
                self.bad(pushes=[push, (0, 1)])
        for value in NOT_WHOLE:
            with self.subTest(value=value):
                self.bad(pushes=[(value, 9)])
                self.bad(pushes=[(-9, value)])
                self.bad(pushes=[(value, value)])

    def test_a_push_of_one_value_is_taken(self):
        self.assertEqual(thing(pushes=[(3, 3)]).pushes(), [(3, 3)])

    def test_pushes_more_or_less_than_the_modes_have(self):
        for wide in range(7):
            for other in (wide - 1, wide + 1):
                if other >= 0:
                    self.refused(BadThing, Thing, 2, [(-1, 1)] * other, [mode(2, wide)])

    def test_modes(self):
        for modes in NOT_LISTS + ([], (mode(),), {0: mode()}, mode()):
            with self.subTest(modes=modes):
                self.refused(BadThing, Thing, 2, [(-1, 1)], modes)
        for wrong in (None, 1, "mode", [], (), {}, Mode, tuple(parts().values()), parts()):
            with self.subTest(wrong=wrong):
                self.bad(modes=[wrong])
                self.bad(modes=[mode(), wrong])
                self.bad(modes=[wrong, mode()])

    def test_rows(self):
        for rows in NOT_LISTS + (((1, 2, 3),),):
            with self.subTest(rows=rows):
                self.bad_mode(rows=rows)
        for row in (None, 1, "123", [1, 2, 3], (), (1, 2), (1, 2, 3, 4), {}, ((1, 2, 3),)):
            with self.subTest(row=row):
                self.bad_mode(rows=[row])
                self.bad_mode(rows=[(1, 2, 3), row])
                self.bad_mode(rows=[row, (1, 2, 3)])
        for value in NOT_WHOLE:
            for place in range(3):
                row = [1, 2, 3]
                row[place] = value
                self.bad_mode(rows=[tuple(row)])

    def check_table(self, name, wide):
        good = [[1] * wide for place in range(2)]
        for table in NOT_LISTS + ([], good[:1], good + [[1] * wide], tuple(good), [tuple(part) for part in good]):
            with self.subTest(name=name, table=table):
                self.bad_mode(wide=wide if name == "push" else 1, **{name: table})
        for place in range(2):
            for wrong in NOT_LISTS + ([1] * (wide - 1), [1] * (wide + 1), tuple([1] * wide)):
                table = [[1] * wide for other in range(2)]
                table[place] = wrong
                self.bad_mode(wide=wide if name == "push" else 1, **{name: table})
            for inner in range(wide):
                for value in NOT_WHOLE:
                    table = [[1] * wide for other in range(2)]
                    table[place][inner] = value
                    self.bad_mode(wide=wide if name == "push" else 1, **{name: table})

    def test_nexts(self):
        self.check_table("nexts", 2)

    def test_push(self):
        self.check_table("push", 1)
        self.check_table("push", 3)

    def test_push_of_no_pushes(self):
        for push in ([], [[]], [[], [], []], [(), ()], [[1], []], [[], [1]], ((), ()), [None, None]):
            with self.subTest(push=push):
                self.bad_mode(wide=0, push=push)
        self.assertEqual(thing(2, [], [mode(2, 0, push=[[], []])]).pushes(), [])

    def check_numbers(self, name):
        for numbers in NOT_LISTS + ([], [1], [1, 2, 3], [[1], [2]]):
            with self.subTest(name=name, numbers=numbers):
                self.bad_mode(**{name: numbers})
        for place in range(2):
            for value in NOT_WHOLE:
                numbers = [1, 2]
                numbers[place] = value
                self.bad_mode(**{name: numbers})

    def test_steer(self):
        self.check_numbers("steer")

    def test_add(self):
        self.check_numbers("add")

    def test_divisor(self):
        for divisor in NOT_WHOLE + (0, -1, -3, -LONG):
            with self.subTest(divisor=divisor):
                self.bad_mode(divisor=divisor)
        self.assertEqual(thing(modes=[mode(divisor=1)]).modes()[0].divisor, 1)

    def test_nothing_is_kept_of_what_was_refused(self):
        pushes = [(0, 1), (1, 0)]
        modes = [mode(2, 2)]
        self.refused(BadThing, Thing, 2, pushes, modes)
        self.assertEqual(pushes, [(0, 1), (1, 0)])
        self.assertEqual(len(modes), 1)


class TooManyTest(Case):
    def test_forty_modes_and_six_pushes_are_taken(self):
        made = Thing(3, [(-1, 1)] * 6, [mode(3, 6, divisor=place + 1) for place in range(40)])
        self.assertEqual([part.divisor for part in made.modes()], list(range(1, 41)))
        self.assertEqual(len(made.pushes()), 6)

    def test_more_are_refused(self):
        for count in (41, 42, 100):
            self.refused(TooMany, Thing, 2, [(-1, 1)], [mode()] * count)
        for wide in (7, 8, 20):
            self.refused(TooMany, Thing, 2, [(-1, 1)] * wide, [mode(2, wide)])
        self.refused(TooMany, Thing, 2, [(-1, 1)] * 7, [mode(2, 7)] * 41)

    def test_where_something_else_is_wrong_it_is_a_bad_thing(self):
        for wrong in (mode(divisor=0), mode(3), mode(2, 2), mode(rows=None), None):
            for place in (0, 20, 40):
                modes = [mode()] * 40
                modes.insert(place, wrong)
                self.refused(BadThing, Thing, 2, [(-1, 1)], modes)
        self.refused(BadThing, Thing, 2, [(-1, 1)] * 7, [mode(2, 6)])
        self.refused(BadThing, Thing, 2, [(-1, 1)] * 6 + [(1, -1)], [mode(2, 7)])
        self.refused(BadThing, Thing, 2, [(-1, 1)] * 7, [])
        self.refused(BadThing, Thing, 4, [(-1, 1)] * 7, [mode(4, 7)])
        self.refused(BadThing, Thing, 4, [(-1, 1)], [mode(4)] * 41)
        self.refused(BadThing, Thing, 2, tuple([(-1, 1)] * 7), [mode(2, 7)])
        self.refused(BadThing, Thing, 2, [(-1, 1)], tuple([mode()] * 41))


if __name__ == "__main__":
    unittest.main()
