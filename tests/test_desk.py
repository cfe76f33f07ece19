"""Point 39: the desk."""

import unittest

from helpers import Case
from steadyhand.desk import Desk
from steadyhand.errors import (
    BadRule, BadThing, BadTurn, NoRow, NoRun, NoText, NotClosed, NotPlain, TooMany)
from steadyhand.texts import read_thing

HALVING = "numbers 1\npush -1 1\nmode 2\nrow 1 10\nnext 1 1 1 0"
ADDING = "numbers 1\npush -1 1\nmode 1\nnext 1 1 1 0"
# Closed: half of the sum of the number and a push from -2 to 2.
CLOSED = "numbers 1\npush -2 2\nmode 2\nnext 1 0 1 0"
FREE = "numbers 1\nmode 1\nnext 2 1 0"
FLAT = "numbers 2\npush 0 1\nmode 1\nnext 1 1 0 0 0\nnext 0 1 1 1 0"
LINES = (
    "steer straight -1 0 2", "late straight -1 0 2", "rounded 2 straight -1 0 2", "turn -1 | -1", "show",
    "walk 5 | 0 1 1",
    "most 1 | 1 5", "judge 3 3 | 1, -1 | settles 0 | 1 3, -1 3 | 1 3, -1 3", "held -2 2 2 | 1 10, -1 10",
    "steering -2 2 2 | 1 10, -1 10 | 9", "pushes -2 2 2 | 1 10, -1 10 | 9 | 1")


def desk_with(text):
    desk = Desk()
    desk.say("thing\n" + text)
    return desk


class DeskCase(Case):
    def says(self, text, line, wanted):
        """A desk that keeps this thing answers so, and goes on keeping it."""
        desk = desk_with(text)
        told = desk.say(line)
        self.assertIs(type(told), str)
        self.assertEqual(told, wanted)
        self.assertEqual(desk.say("show"), text)
        self.assertEqual(desk.say(line), wanted)

    def makes(self, text, line, wanted):
        desk = desk_with(text)
        self.assertEqual(desk.say(line), "ok")
        self.assertEqual(desk.say("show"), wanted)

    def fails(self, text, line, error):
        """It is refused with just this error, and changes nothing."""
        desk = desk_with(text)
        caught = self.refused(error, desk.say, line)
        self.assertEqual(desk.say("show"), text)
        return caught


class MakingTest(DeskCase):
    def test_thing(self):
        desk = Desk()
        self.assertEqual(desk.say("thing\n" + HALVING), "ok")
        self.assertEqual(desk.say("show"), HALVING)
        self.assertEqual(desk.say("thing\n" + FLAT), "ok")
        self.assertEqual(desk.say("show"), FLAT)

    def test_desks_keep_things_of_their_own(self):
        one = desk_with(HALVING)
        other = desk_with(FLAT)
        self.assertEqual((one.say("show"), other.say("show")), (HALVING, FLAT))

    def test_steer(self):
        self.makes(ADDING, "steer straight -1 0 2", "numbers 1\npush -1 1\nmode 2\nnext 1 0 2 0")
        self.makes(ADDING, "steer parted 1 0 straight 0 5 1 stopped -2 2 straight -1 0 3", "\n".join((
            "numbers 1", "push -1 1", "mode 1", "row 1 0", "next 1 0 1 5", "mode 1", "row -1 0", "row -1 -6",
            "next 1 0 1 -2", "mode 3", "row -1 0", "row 1 6", "row -1 6", "next 2 0 3 0", "mode 1", "row -1 0",
            "row 1 -6",
            "next 1 0 1 2")))

    def test_late(self):
        self.makes(ADDING, "late straight -1 0 2",
                   "numbers 2\npush -1 1\nmode 2\nnext 2 2 0 2 0\nnext -1 0 0 0 0")

    def test_rounded(self):
        self.makes(ADDING, "rounded 5 straight -1 3 2", "numbers 1\npush -1 1\npush 0 5\nmode 2\nnext 1 0 2 1 3")

    def test_turn(self):
        self.makes(ADDING, "turn -1 | -1", "numbers 1\npush -1 1\nmode 1\nnext 1 -1 -1 0")
        self.makes(FLAT, "turn 0 1, 1 0 | 0 1, 1 0", "numbers 2\npush 0 1\nmode 1\nnext 1 0 1 1 0\nnext 1 1 0 0 0")
        self.makes(FLAT, "turn 1 2, 1 3 | 3 -2, -1 1", "\n".join((
            "numbers 2", "push 0 1", "mode 1", "next 0 1 2 2 0", "next -1 2 3 3 0")))

    def test_one_after_another(self):
        desk = desk_with(ADDING)
        for line in ("steer straight -1 0 2", "turn -1 | -1", "turn -1 | -1"):
            self.assertEqual(desk.say(line), "ok")
        self.assertEqual(desk.say("show"), "numbers 1\npush -1 1\nmode 2\nnext 1 0 2 0")


class AnsweringTest(DeskCase):
    def test_walk(self):
        self.says(HALVING, "walk 5 | 0 1 1; 0 -1 1/2", "5; 7/2; 3/2")
        self.says(HALVING, "walk 50/3 | ", "50/3")
        self.says(FLAT, "walk 1 1/2 | 0 1 1; 0 0 0", "1 1/2; 3/2 5/2; 4 5/2")
        self.says(FREE, "walk 1 | 0 1/2", "1; 5/2")

    def test_most(self):
        self.says(HALVING, "most 1 | 2 3", "3/2")
        self.says(HALVING, "most -2 | 1 5, -1 -1", "-2")
        self.says(HALVING, "most 1 | all", "open")
        self.says(HALVING, "most 1 | 1 0, -1 -1", "empty")
        self.says(HALVING, "most 0 | all", "0")
        self.says(FLAT, "most 1 1 | 1 0 2, 0 1 3", "5")

    def test_judge(self):
        self.says(CLOSED, "judge 3 3 | 1, -1 | settles 0 | 1 3, -1 3 | 1 3, -1 3", "held")
        self.says(CLOSED, "judge 3 3 | 1, -1 | settles 0 | 1 3, -1 3 | 1 2, -1 3", "broken 3 | ")
        self.says(CLOSED, "judge 3 3 | 1, -1 | settles 0 | 1 0, -1 0 | 1 0", "broken 0 | 0 0 2")
        self.says(CLOSED, "judge 3 3 | 1, -1 | settles 2 | 1 0, -1 0 | 1 1", "broken 0 | 0 0 2; 0 0 2")
        self.says(CLOSED, "judge 1 3 | 1, -1 | settles 0 | 1 0, -1 0 | 1 2", "given up")
        self.says(CLOSED, "judge 2 3 | 1, -1 | settles 0 | 1 0, -1 0 | 1 2", "held")
        self.says(CLOSED, "judge 3 3 | 1, -1 | comes 5 | 1 3, -1 3 | all", "given up")
        self.says(CLOSED, "judge 0 0 | 1 | settles 0 | 1 3 | all", "held")

    def test_held(self):
        self.says(ADDING, "held -2 2 2 | 1 10, -1 10", "1 10, -1 10")
        self.says(ADDING, "held -2 2 0 | 2 10, -1 10, 1 6", "1 5, -1 10")
        self.says(ADDING, "held -2 2 3 | all", "all")
        self.says(FREE, "held -2 2 1 | 1 10, -1 10", "1 6, -1 6")
        self.says(FREE, "held -2 2 2 | 1 10, -1 10", "1 4, -1 4")

    def test_steering(self):
        for value, least, greatest in (("9", "-2", "0"), ("10", "-2", "-1"), ("-10", "1", "2"), ("0", "-2", "2")):
            desk = desk_with(ADDING)
            self.assertIn(desk.say(f"steering -2 2 1 | 1 10, -1 10 | {value}"), (least, greatest))
        self.says(ADDING, "steering -2 2 1 | 1 10, -1 10 | 21/2", "none")
        self.says(FREE, "steering -2 2 1 | 1 10, -1 10 | 6", "-2")
        self.says(FREE, "steering -2 2 1 | 1 10, -1 10 | 7", "none")
        # Each of low, high and turns counts at its place.
        self.says(FREE, "steering -1 -1 1 | 1 10, -1 10 | 5", "-1")
        self.says(FREE, "steering 1 3 2 | 1 10, -1 10 | -19/4", "3")
        self.says(FREE, "steering 1 3 2 | 1 10, -1 10 | -5", "none")
        self.says(FREE, "steering 1 3 1 | 1 10, -1 10 | -6", "2")
        self.assertIn(desk_with(FREE).say("steering -20 20 1 | 1 1, -1 1 | 1/3"), ("-5/3", "1/3"))

    def test_pushes(self):
        self.says(ADDING, "pushes -2 2 1 | 1 10, -1 10 | 9 | 1", "1")
        self.says(ADDING, "pushes -2 2 1 | 1 10, -1 10 | -9 | -1/2", "-1")
        self.says(ADDING, "pushes -2 2 1 | 1 10, -1 10 | 9 | 0", "none")
        self.says(FREE, "pushes -2 2 1 | 1 10, -1 10 | 7 | -2", "")
        self.says(FREE, "pushes -2 2 1 | 1 10, -1 10 | 6 | -2", "none")
        # Against the held room of one turn, from -13/2 to 9/2.
        self.says(FREE, "pushes 1 3 2 | 1 10, -1 10 | -19/4 | 3", "none")
        self.says(FREE, "pushes 1 3 2 | 1 10, -1 10 | -19/4 | 2", "")
        self.says(FREE, "pushes 1 3 2 | 1 10, -1 10 | 7/4 | 1", "none")
        self.says(FREE, "pushes 1 3 2 | 1 10, -1 10 | 2 | 1", "")
        wide = "numbers 1\npush -1 1\npush -3 0\nmode 1\nnext 1 1 1 -2 0"
        self.says(wide, "pushes -2 2 1 | 1 10 | 3 | 1", "1 -3")


class NoRowTest(DeskCase):
    def test_no_thing_at_first(self):
        for line in LINES + ("show", "nothing", ""):
            desk = Desk()
            self.refused(NoRow, desk.say, line)
        # Also where the parts are not written as told.
        for line in ("walk x | y", "steer x", "most 1 | x"):
            self.refused(NoRow, Desk().say, line)

    def test_each_line_is_taken_where_there_is_a_thing(self):
        for line in LINES:
            text = CLOSED if line.startswith("judge") else ADDING
            self.assertIsInstance(desk_with(text).say(line), str)

    def test_what_is_no_text(self):
        for line in (None, 0, True, [], ["show"], (), {}, b"show", 1.0, object()):
            self.fails(ADDING, line, NoRow)
            self.refused(NoRow, Desk().say, line)

    def test_other_words_ahead(self):
        for line in ("", " ", "\n", "shows", "Show", " show", "show ", "show x", "show\n", "show | ", "show | x",
                     "desk",
                     "thing", "thing ", "thing numbers 1", "things\n" + ADDING, " thing\n" + ADDING,
                     "thing \n" + ADDING,
                     "steered straight 1 0 1", "steer\nstraight 1 0 1", "steer\tstraight 1 0 1", "walks 5 | ", "| 5",
                     " | ", "Walk 5 | ", "given up", "ok", "rounded\n1 straight 1 0 1"):
            with self.subTest(line=line):
                self.fails(ADDING, line, NoRow)

    def test_blanks_that_are_missing(self):
        for line in ("steer", "late", "rounded", "rounded ", "rounded 1", "rounded x", "turn", "turn | 1", "walk",
                     "walk | 0 1 1",
                     "most", "most | all", "judge", "judge | 1 | settles 0 | all | all", "held", "held | all",
                     "steering", "steering | all | 1", "pushes", "pushes | all | 1 | 1"):
            with self.subTest(line=line):
                self.fails(ADDING, line, NoRow)

    def test_parts_that_are_missing(self):
        for line in ("turn 1", "turn 1 |", "turn 1|1", "turn 1 |1", "turn 1| 1", "walk 5", "walk 5 |", "walk 5; 0 1 1",
                     "most 1", "most 1 |", "judge 3", "judge 3 3", "judge 3 3 | 1", "judge 3 3 | 1 | settles 0",
                     "judge 3 3 | 1 | settles 0 | all",
                     "judge 3 3 | 1 | settles 0 | all |", "held ", "held 1 2", "held 1 2 3", "held 1 2 3 |",
                     "steering 1 2 | all", "steering 1 2 3 | all",
                     "pushes 1 2 3 | all | 1", "pushes 1 2 3 | all", "pushes 1 2 3"):
            with self.subTest(line=line):
                self.fails(ADDING, line, NoRow)

    def test_more_parts_than_listed(self):
        for line in LINES:
            for more in (" | ", " | 1", " | all"):
                with self.subTest(line=line, more=more):
                    self.fails(ADDING, line + more, NoRow)
        for line in ("thing\n" + ADDING + " | ", "thing\n" + ADDING + " | 1", "thing\nnumbers | 1", "thing\n | "):
            self.fails(ADDING, line, NoRow)
            self.refused(NoRow, Desk().say, line)

    def test_ahead_of_no_text(self):
        for line in ("turn x", "walk x", "walk x | y | z", "judge x x | x | x", "held x x", "rounded x"):
            self.fails(ADDING, line, NoRow)


class NoTextTest(DeskCase):
    def test_what_stands_in_the_parts(self):
        for line in (
                "thing\n", "thing\nx", "thing\nnumbers 1\n", "steer ", "steer x", "steer straight 1 0",
                "steer  straight 1 0 1",
                "steer straight 1 2 0 1", "late ", "late straight 1 0 1 1", "rounded 1 ", "rounded  ",
                "rounded x straight 1 0 1",
                "rounded  straight 1 0 1", "rounded 1/2 straight 1 0 1", "rounded 1  straight 1 0 1", "rounded 1 x",
                "turn  | ", "turn  | 1", "turn 1 | ", "turn x | 1", "turn 1 | 1/2", "turn 1, | 1", "turn 1,, 1 | 1",
                "walk  | ", "walk x | ", "walk 1 2 | ", "walk 2/4 | ", "walk 5 | x", "walk 5 | 0 1", "walk 5 | 0 1 1 1",
                "walk 5 |  ", "walk 5 | 0 1 1;", "most  | all", "most 1 2 | all", "most x | all", "most 1/2 | all",
                "most 1 | ",
                "most 1 | 1", "most 1 | 1 2 3", "most 1 | x", "held x 2 2 | all", "held -2 x 2 | all",
                "held -2 2 x | all",
                "held  2 2 | all", "held -2 2  | all", "held -2 2 2 2 | all", "held x x | x",
                "held 1/2 2 2 | all", "held -2 2 2 | ",
                "held -2 2 2 | 1", "steering x 2 2 | all | 1", "steering -2 2 2 | x | 1", "steering -2 2 2 | all | x",
                "steering -2 2 2 | all | 1 1", "steering -2 2 2 | all | ", "pushes -2 2 x | all | 1 | 1",
                "pushes -2 2 2 | x | 1 | 1", "pushes -2 2 2 | all | x | 1", "pushes -2 2 2 | all | 1 | x",
                "pushes -2 2 2 | all | 1 | 1 1", "pushes -2 2 2 | all | 1 | "):
            with self.subTest(line=line):
                self.fails(ADDING, line, NoText)

    def test_of_judge(self):
        for line in (
                "judge x 3 | 1 | settles 0 | all | all", "judge 3 x | 1 | settles 0 | all | all",
                "judge  3 | 1 | settles 0 | all | all", "judge 3 3 3 | 1 | settles 0 | all | all",
                "judge 3 3 |  | settles 0 | all | all", "judge 3 3 | x | settles 0 | all | all",
                "judge 3 3 | 1 1 | settles 0 | all | all", "judge 3 3 | 1, 1 1 | settles 0 | all | all",
                "judge 3 3 | all | settles 0 | all | all", "judge 3 3 | 1 | settles | all | all",
                "judge 3 3 | 1 | settles -1 | all | all", "judge 3 3 | 1 | settled 0 | all | all",
                "judge 3 3 | 1 | settles 0 | 1 | all", "judge 3 3 | 1 | settles 0 | all | 1",
                "judge 3 3 | 1 | settles 0 |  | all", "judge 3 3 | 1 | 0 | all | all"):
            with self.subTest(line=line):
                self.fails(CLOSED, line, NoText)
                # Ahead of what the points tell of a thing that is not closed.
                self.fails(ADDING, line, NoText)

    def test_too_few_or_too_many_numbers_in_the_first_part(self):
        behind = (("judge", 2, " | 1 | settles 0 | all | all"), ("held", 3, " | all"), ("steering", 3, " | all | 0"),
                  ("pushes", 3, " | all | 0 | 0"))
        for name, asked, parts in behind:
            for count in range(6):
                line = name + " " + " ".join(["1"] * count) + parts
                with self.subTest(line=line):
                    if count == asked:
                        self.assertIsInstance(desk_with(CLOSED).say(line), str)
                    else:
                        self.fails(CLOSED, line, NoText)
                        # Ahead of what the points tell of a thing that is neither closed nor plain.
                        self.fails(HALVING, line, NoText)

    def test_for_the_thing_that_the_desk_keeps(self):
        for line in ("steer straight 1 0 1", "walk 5 | ", "walk 1 1 | 0 1", "most 1 | all", "most 1 1 | 1 1",
                     "judge 3 3 | 1 | settles 0 | all | all", "judge 3 3 | 1 1 | settles 0 | 1 1 | all",
                     "held 0 1 1 | 1 1", "steering 0 1 1 | all | 1", "pushes 0 1 1 | all | 1 | 1"):
            self.fails(FLAT, line, NoText)
        desk = desk_with(FLAT)
        desk.say("late straight 1 1 0 1")
        self.refused(NoText, desk.say, "walk 1 1 | ")
        self.assertEqual(desk.say("walk 1 1 1 | "), "1 1 1")

    def test_ahead_of_what_the_points_tell(self):
        for line, error in (("rounded 0 x", NoText), ("rounded 0 straight 1 0 1", BadRule), ("turn 2 | x", NoText),
                            ("turn 2 | 2", BadTurn), ("walk 5 | 7 1 1; x", NoText), ("walk 5 | 7 1 1", NoRun)):
            self.fails(ADDING, line, error)
        for line in ("held 0 1 1 | x", "steering 0 1 1 | all | x", "pushes 0 1 1 | all | 1 | x"):
            self.fails(HALVING, line, NoText)


class RefusedTest(DeskCase):
    def test_things(self):
        for text in ("numbers 1", "numbers 0", "numbers 1\nmode 0\nnext 1 0 0", "numbers 4"):
            self.fails(ADDING, "thing\n" + text, BadThing)
        self.fails(ADDING, "thing\nnumbers 1" + "\nmode 1\nnext 1 0 0" * 41, TooMany)
        desk = Desk()
        self.refused(BadThing, desk.say, "thing\nnumbers 1")
        self.refused(NoRow, desk.say, "show")

    def test_rules(self):
        for line in ("steer straight 1 0 0", "steer stopped 1 0 straight 1 0 1", "late straight 1 0 0",
                     "late stopped 1 0 straight 1 0 1", "rounded 0 straight 1 0 1", "rounded -1 straight 1 0 1",
                     "rounded 1 straight 1 0 0", "rounded 1 stopped 0 1 straight 1 0 1"):
            self.fails(ADDING, line, BadRule)
        stops = "stopped 0 1 stopped 0 1 stopped 0 1 stopped 0 1 straight 1 0 1"
        for line in ("steer " + stops, "late " + stops):
            self.fails(ADDING, line, TooMany)
        three = "numbers 3\nmode 1\nnext 1 0 0 1 0\nnext 0 1 0 0 0\nnext 0 0 1 0 0"
        self.fails(three, "late straight 1 1 1 0 1", TooMany)
        self.fails("numbers 1" + "\npush 0 1" * 6 + "\nmode 1\nnext 1 1 0 0 0 0 0 0 0", "rounded 1 straight 1 0 1",
                   TooMany)

    def test_turns(self):
        for line in ("turn 2 | 1", "turn 1 | 2", "turn 1 0, 0 1 | 1 0, 0 1", "turn 1, 1 | 1", "turn 1 1 | 1",
                     "turn 1 | 1, 2 3"):
            self.fails(ADDING, line, BadTurn)
        for line in ("turn 1 | 1", "turn 1 0 | 1 0, 0 1", "turn 1 0, 0 1 | 1 1, 0 1", "turn 1, 0 1 | 1 0, 0 1"):
            self.fails(FLAT, line, BadTurn)

    def test_runs(self):
        self.assertEqual(self.fails(HALVING, "walk 5 | 0 1 1; 0 1 2", NoRun).step, 1)
        self.assertEqual(self.fails(HALVING, "walk 11 | 0 1 1", NoRun).step, 0)
        self.assertEqual(self.fails(HALVING, "walk 5 | -1 1 1", NoRun).step, 0)

    def test_not_closed_and_not_plain(self):
        self.fails(ADDING, "judge 3 3 | 1 | settles 0 | all | all", NotClosed)
        self.fails(ADDING, "judge 3 3 | 1 | comes 0 | all | all", NotClosed)
        for line in ("held 0 1 1 | all", "steering 0 1 1 | all | 1", "pushes 0 1 1 | all | 1 | 1"):
            self.fails(HALVING, line, NotPlain)
        safe = ", ".join(f"{place} 1 100" for place in range(61))
        for line in (f"held 0 1 1 | {safe}", f"steering 0 1 1 | {safe} | 1 1", f"pushes 0 1 1 | {safe} | 1 1 | 1"):
            self.fails(FLAT, line, TooMany)

    def test_what_is_told_is_read_again(self):
        desk = desk_with(FLAT)
        desk.say("steer stopped -2 2 straight 1 -1 0 3")
        text = desk.say("show")
        self.assertEqual(len(read_thing(text).modes()), 3)
        desk.say("thing\n" + text)
        self.assertEqual(desk.say("show"), text)


if __name__ == "__main__":
    unittest.main()
