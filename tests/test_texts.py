"""Points 36, 37 and 38: texts, written and read."""

import unittest

from helpers import (
    Case, drawn, draw_fraction, draw_numbers, draw_point, draw_room, draw_rule, draw_thing, plain, whole_thing)
from steadyhand.claims import Comes, Settles
from steadyhand.errors import BadThing, NoText, TooMany
from steadyhand.rules import Parted, Stopped, Straight
from steadyhand.texts import (
    read_claim, read_fraction, read_point, read_room, read_rule, read_run, read_thing, show_claim, show_fraction,
    show_point, show_room, show_rule, show_run, show_thing)
from steadyhand.things import Mode, Thing

SIXTY = 10 ** 59 + 7
NO_TEXTS = (None, 0, 1, True, [], ["1"], (), ("1",), {}, b"1", b"", 1.0, object())
# Words that are no numbers.
NO_NUMBERS = (
    "", "-", "+1", "01", "00", "-0", "-01", "--1", "1-", "1.0", "1e3", "0x1", "a", "one", "1_0", "1,", ",1", "1;", "|",
    "1\n", "\n1", "1\t", "\t1", "- 1", "1" * 61, "-" + "1" * 61, "0" * 60, "all", "straight", "1/", "/1", "/", "1//2")
NO_FRACTIONS = NO_NUMBERS + (
    "2/4", "0/2", "0/1", "1/1", "5/1", "-3/1", "1/0", "0/0", "1/-2", "-1/-2", "3/6", "-3/6", "1/02", "01/2", "-0/2",
    "1/2/3", "1 /2", "1/ 2", "1/2 ", " 1/2", "4/2", "1/" + "1" * 61, "1" * 61 + "/2", "1/+2", "+1/2", "1/2.0")


def plain_claim(claim):
    if isinstance(claim, Settles):
        return ("settles", claim.start, claim.rows, claim.turn)
    return ("comes", claim.start, claim.goal, claim.turns)


class TextCase(Case):
    def no_text(self, read, *parts):
        self.refused(NoText, read, *parts)

    def same(self, one, other):
        """The same of the same kinds, through and through: no list for a tuple, no truth for a number."""
        self.assertEqual(one, other)
        self.assertIs(type(one), type(other))
        if isinstance(one, (list, tuple)):
            for part, wanted in zip(one, other):
                self.same(part, wanted)


class FractionTextTest(TextCase):
    def test_both_ways(self):
        for value, text in (
                ((0, 1), "0"), ((5, 1), "5"), ((-5, 1), "-5"), ((10, 1), "10"), ((1, 2), "1/2"), ((-1, 2), "-1/2"),
                ((7, 3), "7/3"), ((100, 9), "100/9"), ((SIXTY, 1), str(SIXTY)), ((-SIXTY, 1), str(-SIXTY)),
                ((-SIXTY, 2), str(-SIXTY) + "/2"), ((2, SIXTY), "2/" + str(SIXTY))):
            with self.subTest(text=text):
                self.assertEqual(show_fraction(value), text)
                self.same(read_fraction(text), value)

    def test_sixty_figures_and_sixty_one(self):
        self.assertEqual(len(str(SIXTY)), 60)
        self.assertEqual(read_fraction("9" * 60), (10 ** 60 - 1, 1))
        self.assertEqual(read_fraction("-" + "9" * 60), (1 - 10 ** 60, 1))
        self.no_text(read_fraction, "1" + "0" * 60)
        self.no_text(read_fraction, "-1" + "0" * 60)
        self.assertEqual(show_fraction((10 ** 60, 1)), "1" + "0" * 60)

    def test_not_written_so(self):
        for text in NO_FRACTIONS + (" ", "1 ", " 1", "1 2", "\n"):
            with self.subTest(text=text):
                self.no_text(read_fraction, text)

    def test_no_texts(self):
        for value in NO_TEXTS + ((1, 2),):
            self.no_text(read_fraction, value)

    def test_drawn(self):
        source = drawn(121)
        for turn in range(300):
            value = draw_fraction(source, 30)
            self.same(read_fraction(show_fraction(value)), value)


class RoomTextTest(TextCase):
    def test_both_ways(self):
        for room, many, text in (
                ([], 1, "all"), ([], 3, "all"), ([(1, 10)], 1, "1 10"), ([(1, 2, 3), (-4, 0, -6)], 2, "1 2 3, -4 0 -6"),
                ([(0, 0, 0, 0)], 3, "0 0 0 0"), ([(SIXTY, -SIXTY)], 1, str(SIXTY) + " " + str(-SIXTY))):
            with self.subTest(text=text):
                self.assertEqual(show_room(room), text)
                self.same(read_room(text, many), room)

    def test_numbers_too_few_or_too_many(self):
        for text in ("1", "1 2 3", "1 2, 3", "1, 2 3", "1 2, 3 4 5", "1 2 3, 4 5"):
            self.no_text(read_room, text, 1)
        for text in ("1 2", "1 2 3 4", "1 2 3, 4 5", "1 2 3, 4 5 6 7"):
            self.no_text(read_room, text, 2)
        self.no_text(read_room, "1 2 3", 3)

    def test_blanks_and_commas(self):
        for text in ("", " ", " 1 2", "1 2 ", "1  2", "1 2,3 4", "1 2 , 3 4", "1 2,  3 4", "1 2, ", ", 1 2",
                     "1 2, , 3 4",
                     "1 2;3 4", "1 2; 3 4", "1 2,\n3 4", "1\t2", "1 2\n", "1 2,", "1 2, 3 4, "):
            with self.subTest(text=text):
                self.no_text(read_room, text, 1)

    def test_all(self):
        for text in ("All", "all ", " all", "all, 1 2", "1 2, all", "all all", "all, all"):
            self.no_text(read_room, text, 1)

    def test_words_that_are_no_numbers(self):
        for word in NO_NUMBERS + ("1/2",):
            with self.subTest(word=word):
                self.no_text(read_room, word + " 1", 1)
                self.no_text(read_room, "1 " + word, 1)
                self.no_text(read_room, "1 2, 3 " + word, 1)

    def test_no_texts(self):
        for value in NO_TEXTS:
            self.no_text(read_room, value, 1)

    def test_drawn(self):
        source = drawn(122)
        for turn in range(100):
            many = source.randint(1, 3)
            room = draw_room(source, many, 50, source.randint(0, 4))
            self.same(read_room(show_room(room), many), room)


class PointTextTest(TextCase):
    def test_both_ways(self):
        for point, text in (([(1, 2)], "1/2"), ([(1, 2), (-3, 1)], "1/2 -3"), ([(0, 1), (7, 5), (SIXTY, 2)],
                            "0 7/5 " + str(SIXTY) + "/2")):
            self.assertEqual(show_point(point), text)
            self.same(read_point(text, len(point)), point)

    def test_not_written_so(self):
        for text in ("", " ", "1 ", " 1", "1 2", "1,", "1\n"):
            self.no_text(read_point, text, 1)
        for text in ("1", "1 2 3", "1  2", "1, 2", "1; 2", "1 2 ", "1/2", "1\t2", "1\n2"):
            self.no_text(read_point, text, 2)
        for word in NO_FRACTIONS:
            self.no_text(read_point, word + " 1", 2)
            self.no_text(read_point, "1 " + word, 2)

    def test_no_texts(self):
        for value in NO_TEXTS + ([(1, 1)],):
            self.no_text(read_point, value, 1)


class RuleTextTest(TextCase):
    EXAMPLE = "parted 1 0 straight 0 5 1 stopped -2 2 straight -1 0 3"

    def test_the_example_in_the_document(self):
        rule = Parted((1, 0), Straight([0], 5, 1), Stopped(Straight([-1], 0, 3), -2, 2))
        self.assertEqual(show_rule(rule), self.EXAMPLE)
        self.same(plain(read_rule(self.EXAMPLE, 1)), plain(rule))

    def test_both_ways(self):
        for rule, many, text in (
                (Straight([1], 2), 1, "straight 1 2 1"), (Straight([1, 2], 3, 4), 2, "straight 1 2 3 4"),
                (Straight([1, 2, 3], -4, 5), 3, "straight 1 2 3 -4 5"),
                (Stopped(Straight([1], 2), -3, 4), 1, "stopped -3 4 straight 1 2 1"),
                (Parted((1, 2, 3), Straight([4, 5], 6, 7), Straight([8, 9], 10, 11)), 2,
                 "parted 1 2 3 straight 4 5 6 7 straight 8 9 10 11"),
                (Straight([SIXTY], -SIXTY, SIXTY), 1, f"straight {SIXTY} {-SIXTY} {SIXTY}")):
            with self.subTest(text=text):
                self.assertEqual(show_rule(rule), text)
                self.same(plain(read_rule(text, many)), plain(rule))

    def test_whatever_the_divisors_and_stops_are(self):
        for rule in (Straight([1], 2, 0), Straight([1], 2, -5), Stopped(Straight([1], 2), 4, -4),
                     Parted((0, 0), Stopped(Straight([0], 0, 0), 1, 0), Straight([1], 1, -1))):
            self.same(plain(read_rule(show_rule(rule), 1)), plain(rule))

    def test_drawn(self):
        source = drawn(123)
        for turn in range(200):
            many = source.randint(1, 3)
            rule = draw_rule(source, many, 4)
            self.same(plain(read_rule(show_rule(rule), many)), plain(rule))

    def test_twelve_deep(self):
        rule = Straight([1], 0)
        for turn in range(11):
            rule = Stopped(rule, -turn, turn) if turn % 2 else Parted((turn, 1), Straight([turn], 0), rule)
        self.same(plain(read_rule(show_rule(rule), 1)), plain(rule))

    def test_words_too_few_or_too_many(self):
        words = self.EXAMPLE.split(" ")
        for place in range(len(words)):
            self.no_text(read_rule, " ".join(words[:place] + words[place + 1:]), 1)
            for more in ("0", "straight", "1/2"):
                self.no_text(read_rule, " ".join(words[:place] + [more] + words[place:]), 1)
        for more in (" 0", " straight 1 0 1", " ", " all", "\n"):
            self.no_text(read_rule, self.EXAMPLE + more, 1)
        self.no_text(read_rule, "straight 1 0 1 straight 1 0 1", 1)
        self.no_text(read_rule, "1 straight 1 0 1", 1)

    def test_of_another_number_of_numbers(self):
        self.no_text(read_rule, self.EXAMPLE, 2)
        self.no_text(read_rule, "straight 1 2 3 4", 1)
        self.no_text(read_rule, "straight 1 2 3", 2)
        self.no_text(read_rule, "stopped 1 2 3 straight 1 0 1", 1)
        self.no_text(read_rule, "stopped 1 straight 1 0 1", 1)
        self.no_text(read_rule, "parted 1 straight 1 0 1 straight 1 0 1", 1)
        self.no_text(read_rule, "parted 1 2 3 straight 1 0 1 straight 1 0 1", 1)
        self.no_text(read_rule, "parted 1 2 straight 1 0 1", 1)

    def test_words_of_other_kinds(self):
        words = self.EXAMPLE.split(" ")
        for place, word in enumerate(words):
            for wrong in NO_NUMBERS + ("1/2",):
                if wrong != word:
                    with self.subTest(place=place, wrong=wrong):
                        self.no_text(read_rule, " ".join(words[:place] + [wrong] + words[place + 1:]), 1)
        for text in ("", " ", "0", "1 2 3", "Straight 1 0 1", "straight", "stopped", "parted", "all", "straight  1 0 1",
                     " straight 1 0 1", "straight 1 0 1 ", "straight\t1 0 1", "stopped straight 1 0 1 0 1"):
            self.no_text(read_rule, text, 1)

    def test_a_rule_in_the_place_of_a_number_and_the_other_way_round(self):
        self.no_text(read_rule, "straight straight 1 0 1 0 1", 1)
        self.no_text(read_rule, "stopped straight 1 0 1 1 straight 1 0 1", 1)
        self.no_text(read_rule, "stopped 1 2 3", 1)
        self.no_text(read_rule, "parted 1 2 3 4", 1)
        self.no_text(read_rule, "parted straight 1 0 1 2 straight 1 0 1 straight 1 0 1", 1)

    def test_words_without_end(self):
        self.no_text(read_rule, "stopped 0 1 " * 5000 + "straight 1 0", 1)
        self.no_text(read_rule, "straight 1 " * 5000, 1)

    def test_no_texts(self):
        for value in NO_TEXTS + (Straight([1], 0),):
            self.no_text(read_rule, value, 1)


class RunTextTest(TextCase):
    def test_both_ways(self):
        for run, wide, text in (
                ([], 0, ""), ([], 2, ""), ([(0, (1, 2), [])], 0, "0 1/2"),
                ([(0, (1, 1), [(1, 1)]), (3, (-1, 2), [(0, 1)])], 1, "0 1 1; 3 -1/2 0"),
                ([(-7, (0, 1), [(1, 3), (-2, 1)])], 2, "-7 0 1/3 -2"),
                ([(SIXTY, (SIXTY, 1), [(1, SIXTY)])], 1, f"{SIXTY} {SIXTY} 1/{SIXTY}")):
            with self.subTest(text=text):
                self.assertEqual(show_run(run), text)
                self.same(read_run(text, wide), run)

    def test_numbers_too_few_or_too_many(self):
        for text in ("0", "0 1", "0 1 2 3", "0 1 2; 0 1", "0 1; 0 1 2", "0 1 2; 0 1 2 3"):
            self.no_text(read_run, text, 1)
        for text in ("0", "0 1 2"):
            self.no_text(read_run, text, 0)

    def test_not_written_so(self):
        for text in (" ", "0 1 ", " 0 1", "0  1", "0 1;0 1", "0 1 ; 0 1", "0 1;  0 1", "0 1; ", "; 0 1", "0 1, 0 1",
                     "; ",
                     "0 1\n", "0 1;\n0 1", "all", "0 1; all", "0\t1", ";"):
            with self.subTest(text=text):
                self.no_text(read_run, text, 0)
        for word in NO_NUMBERS + ("1/2",):
            self.no_text(read_run, word + " 1", 0)
        for word in NO_FRACTIONS:
            self.no_text(read_run, "0 " + word, 0)
            self.no_text(read_run, "0 1 " + word, 1)
            self.no_text(read_run, "0 " + word + " 1", 1)
            self.no_text(read_run, "0 1; 0 " + word, 0)

    def test_no_texts(self):
        for value in NO_TEXTS:
            self.no_text(read_run, value, 0)

    def test_drawn(self):
        source = drawn(124)
        for turn in range(100):
            wide = source.randint(0, 3)
            run = [(source.randint(-3, 9), draw_fraction(source), draw_point(source, wide))
                   for step in range(source.randint(0, 3))]
            self.same(read_run(show_run(run), wide), run)


class ClaimTextTest(TextCase):
    def test_both_ways(self):
        for claim, many, text in (
                (Settles([(1, 3), (-1, 3)], [(1, 4)]), 1, "settles 0 | 1 3, -1 3 | 1 4"),
                (Settles([], [], 7), 1, "settles 7 | all | all"),
                (Comes([(1, 2, 3)], [], 12), 2, "comes 12 | 1 2 3 | all"),
                (Comes([], [(0, 0, 0, -1)], 0), 3, "comes 0 | all | 0 0 0 -1"),
                (Settles([], [(SIXTY, -SIXTY)], SIXTY), 1, f"settles {SIXTY} | all | {SIXTY} {-SIXTY}")):
            with self.subTest(text=text):
                self.assertEqual(show_claim(claim), text)
                self.same(plain_claim(read_claim(text, many)), plain_claim(claim))

    def test_not_written_so(self):
        for text in ("", "settles", "settles 0", "settles 0 | all", "settles 0 | all | all | all",
                     "settles | all | all",
                     "settles  0 | all | all", "settles 0 0 | all | all", "settles 0| all | all",
                     "settles 0 |all | all",
                     "settles 0 | all |all", "settles 0 | all | ", "settles 0 |  | all", " settles 0 | all | all",
                     "settles 0 | all | all ", "settles 0 | all | all\n", "settles 0 | | all", "Settles 0 | all | all",
                     "settled 0 | all | all", "0 | all | all", "settles -1 | all | all", "comes -1 | all | all",
                     "settles 1/2 | all | all", "settles -0 | all | all", "settles 00 | all | all", "comes | all | all",
                     "comes 0 | all", "comes 0 | all | 1 2 3", "settles 0 | 1 | all", "settles 0 | 1 2 | 3",
                     "settles 0 | 1 2 | 3 x", "settles 0 | 1/2 2 | all", "settles x | all | all", " | all | all",
                     "settles 0 || all | all", "settles 0 , all , all", "settles 0; all; all"):
            with self.subTest(text=text):
                self.no_text(read_claim, text, 1)

    def test_no_texts(self):
        for value in NO_TEXTS:
            self.no_text(read_claim, value, 1)

    def test_drawn(self):
        source = drawn(125)
        for turn in range(60):
            many = source.randint(1, 3)
            rooms = [draw_room(source, many, 9, source.randint(0, 2)) for place in range(2)]
            claim = source.choice((Settles, Comes))(rooms[0], rooms[1], source.randint(0, 30))
            self.same(plain_claim(read_claim(show_claim(claim), many)), plain_claim(claim))


EXAMPLE = "numbers 1\npush -1 1\nmode 2\nrow 1 10\nnext 1 1 1 0"
LARGER = """numbers 2
push -1 1
push 0 3
mode 1
next 1 2 3 4 5 6
next 7 8 9 10 11 12
mode 5
row 1 2 3
row -4 -5 -6
next 13 14 15 16 17 18
next 19 20 21 22 23 24"""


class ThingTextTest(TextCase):
    def test_the_example_in_the_document(self):
        thing = Thing(1, [(-1, 1)], [Mode([(1, 10)], [[1]], [1], [[1]], [0], 2)])
        self.assertEqual(show_thing(thing), EXAMPLE)
        self.same(whole_thing(read_thing(EXAMPLE)), whole_thing(thing))

    def test_both_ways(self):
        thing = Thing(2, [(-1, 1), (0, 3)], [
            Mode([], [[1, 2], [7, 8]], [3, 9], [[4, 5], [10, 11]], [6, 12], 1),
            Mode([(1, 2, 3), (-4, -5, -6)], [[13, 14], [19, 20]], [15, 21], [[16, 17], [22, 23]], [18, 24], 5)])
        self.assertEqual(show_thing(thing), LARGER)
        self.same(whole_thing(read_thing(LARGER)), whole_thing(thing))

    def test_no_pushes(self):
        thing = Thing(1, [], [Mode([], [[2]], [3], [[]], [4], 5)])
        self.assertEqual(show_thing(thing), "numbers 1\nmode 5\nnext 2 3 4")
        self.same(whole_thing(read_thing("numbers 1\nmode 5\nnext 2 3 4")), whole_thing(thing))

    def test_drawn(self):
        source = drawn(126)
        for turn in range(100):
            thing = draw_thing(source, source.randint(1, 3), source.randint(0, 6), modes=source.randint(1, 4),
                               rows=source.randint(0, 2))
            self.same(whole_thing(read_thing(show_thing(thing))), whole_thing(thing))

    def test_sixty_figures(self):
        thing = Thing(1, [(-SIXTY, SIXTY)], [Mode([(SIXTY, -SIXTY)], [[SIXTY]], [-SIXTY], [[SIXTY]], [-SIXTY], SIXTY)])
        self.same(whole_thing(read_thing(show_thing(thing))), whole_thing(thing))
        self.no_text(read_thing, EXAMPLE.replace("10", "1" + "0" * 60))

    def test_each_word_wrong_left_out_or_twice(self):
        for text in (EXAMPLE, LARGER):
            lines = [line.split(" ") for line in text.split("\n")]
            for place, words in enumerate(lines):
                for inner, word in enumerate(words):
                    for wrong in ([], [word, word], [""], ["x"], [word + "x"], ["1/2"], ["-0"], ["01"], [word, ""]):
                        if not (wrong == [] and len(words) == 1):
                            changed = lines[:place] + [words[:inner] + wrong + words[inner + 1:]] + lines[place + 1:]
                            with self.subTest(place=place, inner=inner, wrong=wrong):
                                self.no_text(read_thing, "\n".join(" ".join(line) for line in changed))

    def test_lines_left_out_twice_or_in_another_order(self):
        for text in ("", "\n", EXAMPLE + "\n", "\n" + EXAMPLE, EXAMPLE.replace("\n", "\n\n"), EXAMPLE.replace("\n",
                                                                                                              " "),
                     EXAMPLE.replace("\n", "\r\n"), EXAMPLE.replace("\n", ", "), "numbers 1\n", "push -1 1", "mode 1",
                     "numbers 1\nnumbers 1\nmode 1\nnext 1 0 0", "mode 1\nnumbers 1\nnext 1 0 0",
                     "push 0 1\nnumbers 1\nmode 1\nnext 1 0 0 0", "numbers 1\nmode 1\npush 0 1\nnext 1 0 0 0",
                     "numbers 1\nmode 1", "numbers 1\nmode 1\nnext 1 0 0\nnext 1 0 0", "numbers 1\nnext 1 0 0",
                     "numbers 1\nmode 1\nnext 1 0 0\nrow 1 1", "numbers 1\nrow 1 1\nmode 1\nnext 1 0 0",
                     "numbers 2\nmode 1\nnext 1 0 0 0", "numbers 2\nmode 1\nnext 1 0 0 0\nmode 1\nnext 1 0 0 0",
                     "numbers 1\nmode 1\nmode 1\nnext 1 0 0", "numbers 1\nmode 1\nnext 1 0 0\nmode 1",
                     "numbers 1\nmode 1\nnext 1 0 0\npush 0 1", "numbers 1\nmode 1\nrow 1 1\nrow 1\nnext 1 0 0",
                     "numbers 1\nmode 1\nnext 1 0 0\nmode 1\nrow 1 1", "numbers\nmode 1\nnext 1 0 0",
                     "numbers 1\nmode\nnext 1 0 0", "numbers 1 1\nmode 1\nnext 1 0 0", "Numbers 1\nmode 1\nnext 1 0 0"):
            with self.subTest(text=text):
                self.no_text(read_thing, text)

    def test_numbers_that_do_not_fit_many_and_the_pushes(self):
        for text in ("numbers 2\nmode 1\nnext 1 0 0\nnext 1 0 0", "numbers 1\nmode 1\nnext 1 0 0 0",
                     "numbers 1\npush 0 1\nmode 1\nnext 1 0 0", "numbers 1\nmode 1\nrow 1 1 1\nnext 1 0 0",
                     "numbers 2\nmode 1\nrow 1 1\nnext 1 0 0 0\nnext 1 0 0 0",
                     "numbers 1000000000000000000000000000000\nmode 1\nnext 1 0 0", "numbers 0\nmode 1\nnext 0 0",
                     "numbers -1\nmode 1\nnext 0", "numbers 4\nmode 1\nnext 1 0 0"):
            with self.subTest(text=text):
                self.no_text(read_thing, text)

    def test_so_written_but_no_thing(self):
        for text in ("numbers 1", "numbers 0", "numbers -3", "numbers 3", "numbers 4", "numbers " + str(SIXTY),
                     "numbers 1\npush 0 1", "numbers 1\npush 1 0", "numbers 0\nmode 1", "numbers -1\nmode 1",
                     "numbers 1\npush 1 0\nmode 1\nnext 1 0 0 0", "numbers 1\nmode 0\nnext 1 0 0",
                     "numbers 1\nmode -2\nnext 1 0 0", "numbers 0\nmode 1\nrow 5",
                     "numbers 4\nmode 1" + "\nnext 1 0 0 0 0 0" * 4,
                     "numbers 1\nmode 1\nnext 1 0 0\nmode 0\nnext 1 0 0",
                     "numbers 1" + "\npush 0 1" * 7, "numbers 1" + "\nmode 0\nnext 1 0 0" * 41):
            with self.subTest(text=text):
                self.refused(BadThing, read_thing, text)

    def test_so_written_but_too_many(self):
        mode = "\nmode 1\nnext 1 0 0"
        self.assertEqual(len(read_thing("numbers 1" + mode * 40).modes()), 40)
        self.refused(TooMany, read_thing, "numbers 1" + mode * 41)
        wide = "\nmode 1\nnext 1 0 0 0 0 0 0 0 0 0"
        self.refused(TooMany, read_thing, "numbers 1" + "\npush 0 1" * 7 + wide)
        six = "numbers 1" + "\npush 0 1" * 6 + "\nmode 1\nnext 1 0 0 0 0 0 0 0 0"
        self.assertEqual(len(read_thing(six).pushes()), 6)

    def test_no_text_ahead_of_bad_thing_and_too_many(self):
        mode = "\nmode 1\nnext 1 0 0"
        self.no_text(read_thing, "numbers 1" + mode * 41 + "\nmode 1")
        self.no_text(read_thing, "numbers 1\npush 1 0\nmode 1\nnext 1 0 0")
        self.no_text(read_thing, "numbers 1\nmode 0\nnext 1 0 x")
        self.no_text(read_thing, "numbers 9\nx")

    def test_no_texts(self):
        for value in NO_TEXTS:
            self.no_text(read_thing, value)


class WrittenTest(TextCase):
    def test_showing_changes_nothing(self):
        source = drawn(127)
        thing = draw_thing(source, 2, 2, modes=2, rows=1)
        before = whole_thing(thing)
        show_thing(thing)
        self.assertEqual(whole_thing(thing), before)
        point = draw_point(source, 3)
        run = [(0, (1, 2), [(1, 1)])]
        numbers = draw_numbers(source, 2, 9)
        rule = Straight(numbers, 3)
        show_point(point)
        show_run(run)
        show_rule(rule)
        self.assertEqual((len(point), run, rule.numbers), (3, [(0, (1, 2), [(1, 1)])], numbers))

    def test_what_is_read_is_new_each_time(self):
        for read, parts in ((read_room, ("1 2", 1)), (read_room, ("all", 1)), (read_point, ("1 2", 2)),
                            (read_run, ("0 1", 0)), (read_run, ("", 0))):
            first = read(*parts)
            before = list(first)
            first.append(None)
            self.assertEqual(read(*parts), before)


if __name__ == "__main__":
    unittest.main()
