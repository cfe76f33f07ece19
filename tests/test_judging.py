"""Points 3, 23 and 30: verdicts."""

import unittest

from helpers import LONG, Case, drawn, draw_room
from paper_helpers import around_0, between, draw_run, draw_shrinking, draw_start, keeps_settles
from steadyhand.claims import Comes, Settles
from steadyhand.errors import NotClosed
from steadyhand.growing import grown
from steadyhand.judging import Broken, GivenUp, Held, Verdict, judge
from steadyhand.papers import Rooms, lets_by
from steadyhand.rows import lies_in
from steadyhand.runs import walked
from steadyhand.things import Mode, Thing
from steadyhand.worst import worst

LINE = [(1,), (-1,)]
HALVING = Thing(1, [(-2, 2)], [Mode([], [[1]], [0], [[1]], [0], 2)])
OPEN = Thing(1, [(-2, 2)], [Mode([], [[1]], [1], [[1]], [0], 2)])
EMPTY = [(1, 0), (-1, -1)]


class KindsTest(Case):
    def test_classes_straight_under_verdict(self):
        for kind in (Held, Broken, GivenUp):
            self.assertEqual(kind.__bases__, (Verdict,))
        self.assertEqual(Verdict.__bases__, (object,))

    def test_fields_and_held(self):
        paper = Rooms([[]], 0, [], [[[]]], [[]])
        self.assertIs(Held(paper).paper, paper)
        self.assertIs(Held(paper).held(), True)
        broken = Broken([(1, 2)], [(0, (0, 1), [(1, 1)])])
        self.assertEqual((broken.point, broken.run), ([(1, 2)], [(0, (0, 1), [(1, 1)])]))
        self.assertIs(broken.held(), False)
        self.assertIs(GivenUp().held(), False)

    def test_lists_handed_in_and_changed_later(self):
        point = [(1, 2)]
        run = [(0, (0, 1), [(1, 1)])]
        broken = Broken(point, run)
        point.append((3, 4))
        run[0][2].append((5, 1))
        run.append(None)
        self.assertEqual((broken.point, broken.run), ([(1, 2)], [(0, (0, 1), [(1, 1)])]))


class JudgeCase(Case):
    def check(self, thing, claim, shape, tries, turns):
        """The verdict is never wrong; tells its kind by a word."""
        verdict = judge(thing, claim, shape, tries, turns)
        self.assertIsInstance(verdict, Verdict)
        self.assertIs(verdict.held(), isinstance(verdict, Held))
        if isinstance(verdict, Held):
            self.assertIs(lets_by(thing, claim, verdict.paper), True)
            return "held"
        if isinstance(verdict, Broken):
            points = walked(thing, verdict.point, verdict.run)
            self.assertTrue(lies_in(claim.start, verdict.point))
            self.assertTrue(claim.turn <= len(verdict.run) <= turns)
            self.assertFalse(lies_in(claim.rows, points[-1]))
            self.assertFalse(keeps_settles(claim, points))
            return "broken"
        self.assertIsInstance(verdict, GivenUp)
        return "given up"


class JudgeTest(JudgeCase):
    def test_held(self):
        self.assertEqual(self.check(HALVING, Settles(between(-3, 3), between(-3, 3)), LINE, 0, 5), "held")
        self.assertEqual(self.check(HALVING, Settles(between(0, 0), between(-2, 2)), LINE, 2, 20), "held")
        self.assertEqual(self.check(HALVING, Settles(between(0, 0), between(-2, 2)), LINE, 9, 0), "held")
        self.assertEqual(self.check(HALVING, Settles(between(0, 0), between(-2, 2), 7), LINE, 2, 9), "held")
        self.assertEqual(self.check(HALVING, Settles(between(0, 0), []), LINE, 2, 9), "held")

    def test_broken_at_some_turn(self):
        # From 0 it comes to 1, 3/2, 7/4: above 3/2 only from turn 3 on.
        rows = [(2, 3), (-2, 3)]
        for turns, wanted in ((0, "given up"), (1, "given up"), (2, "given up"), (3, "broken"), (9, "broken")):
            self.assertEqual(self.check(HALVING, Settles(between(0, 0), rows), LINE, 9, turns), wanted)
        verdict = judge(HALVING, Settles(between(0, 0), rows), LINE, 9, 3)
        self.assertEqual(len(verdict.run), 3)

    def test_broken_at_turn_0(self):
        claim = Settles(between(-3, 3), between(-3, 2))
        self.assertEqual(self.check(HALVING, claim, LINE, 9, 0), "broken")
        self.assertEqual(judge(HALVING, claim, LINE, 9, 0).run, [])
        self.assertEqual(judge(HALVING, claim, LINE, 9, 0).point, [(3, 1)])

    def test_from_the_claims_turn_on_both_counted(self):
        # From -8 to 8: 8, 5, 7/2, 11/4, ..
        start = between(-8, 8)
        for turn, rows, turns, wanted in (
                (0, between(-8, 8), 9, "held"), (1, between(-5, 5), 9, "given up"), (1, between(-4, 4), 1, "broken"),
                (1, between(-4, 4), 0, "given up"), (2, between(-4, 4), 9, "given up"),
                (2, between(-3, 3), 2, "broken"), (3, between(-3, 3), 9, "given up"),
                (3, between(-2, 2), 3, "broken"), (3, between(-2, 2), 2, "given up")):
            with self.subTest(turn=turn, rows=rows, turns=turns):
                self.assertEqual(self.check(HALVING, Settles(start, rows, turn), LINE, 9, turns), wanted)

    def test_just_the_bound_is_not_broken(self):
        thing = Thing(1, [(0, 1)], [Mode([], [[1]], [0], [[1]], [0], 1)])
        self.assertEqual(self.check(thing, Settles(between(0, 0), [(1, 5)]), LINE, 3, 5), "given up")
        self.assertEqual(self.check(thing, Settles(between(0, 0), [(1, 5)]), LINE, 3, 6), "broken")
        self.assertEqual(self.check(thing, Settles(between(0, 0), [(-1, 0)]), LINE, 3, 20), "given up")

    def test_broken_where_the_worst_is_open(self):
        for start, rows in (([], [(1, 5)]), ([(-1, 0)], [(1, 5)]), ([(-1, -100)], [(1, 5)]), ([(1, 0)], [(-1, LONG)])):
            for turn in (0, 1, 4):
                self.assertEqual(self.check(HALVING, Settles(start, rows, turn), LINE, 3, 4), "broken")
        strip = [(1, 0, 1), (-1, 0, 1)]
        turn = Thing(2, [], [Mode([], [[0, 1], [-1, 0]], [0, 0], [[], []], [0, 0], 1)])
        self.assertEqual(self.check(turn, Settles(strip, [(1, 0, 9)]), [(1, 0)], 3, 0), "given up")
        self.assertEqual(self.check(turn, Settles(strip, [(1, 0, 9)]), [(1, 0)], 3, 1), "broken")

    def test_any_row_of_the_claim(self):
        for rows in ([(1, 9), (-1, 2)], [(-1, 2), (1, 9)], [(1, 9), (0, -1)], [(0, -1)]):
            self.assertEqual(self.check(HALVING, Settles(between(-3, 3), rows), LINE, 9, 0), "broken")

    def test_given_up(self):
        # No shape that is bounded, too few tries, a start without points, a room that is too wide.
        self.assertEqual(self.check(HALVING, Settles([(1, 3)], [(1, 3)]), LINE, 9, 9), "given up")
        self.assertEqual(self.check(HALVING, Settles([(1, 3)], [(1, 3)]), LINE[:1], 9, 9), "held")
        self.assertEqual(self.check(HALVING, Settles(between(0, 0), between(-2, 2)), LINE, 1, 9), "given up")
        self.assertEqual(self.check(HALVING, Settles(EMPTY, between(-2, 2)), LINE, 9, 9), "given up")

    def test_things_that_are_not_plain(self):
        down = Mode([(-1, 0)], [[1]], [0], [[1]], [-1], 1)
        up = Mode([(1, 0)], [[1]], [0], [[1]], [1], 1)
        thing = Thing(1, [(-1, 1)], [down, up])
        self.assertEqual(self.check(thing, Settles(between(-1, 1), between(-2, 2)), LINE, 3, 9), "held")
        # It is broken at turn 0, but only of a plain thing this is looked for.
        self.assertEqual(self.check(thing, Settles(between(-2, 2), between(-1, 1)), LINE, 3, 9), "given up")
        ruled = Thing(1, [(-2, 2)], [Mode([(0, 0)], [[1]], [0], [[1]], [0], 2)])
        self.assertEqual(self.check(ruled, Settles(between(-3, 3), between(-2, 2)), LINE, 9, 9), "given up")
        self.assertEqual(self.check(ruled, Settles(between(-3, 3), between(-3, 3)), LINE, 9, 9), "held")

    def test_turns_below_the_claims_turn(self):
        claim = Settles(between(-9, 9), between(-3, 3), 5)
        self.assertEqual(self.check(HALVING, claim, LINE, 9, 4), "given up")
        self.assertEqual(self.check(HALVING, Settles(between(-9, 9), between(-9, 9), 5), LINE, 9, 4), "held")
        self.assertEqual(self.check(HALVING, Settles(between(-9, 9), between(-2, 2), 5), LINE, 9, 4), "given up")
        self.assertEqual(self.check(HALVING, Settles(between(-9, 9), between(-2, 2), 5), LINE, 9, 5), "broken")

    def test_a_claim_comes(self):
        for claim in (Comes(between(-3, 3), between(-3, 3), 0), Comes(between(-3, 3), [], 5), Comes([], [(0, -1)], 3)):
            self.assertIsInstance(judge(HALVING, claim, LINE, 9, 9), GivenUp)

    def test_not_closed_ahead_of_all_else(self):
        for claim in (Settles(between(-3, 3), between(-3, 3)), Comes([], [], 0), Settles([], [(0, -1)])):
            self.refused(NotClosed, judge, OPEN, claim, LINE, 3, 3)

    def test_drawn_things(self):
        source = drawn(91)
        seen = {"held": 0, "broken": 0, "given up": 0}
        for turn in range(150):
            many = source.randint(1, 2)
            thing = draw_shrinking(source, many, plain=source.randint(0, 1) == 1)
            start = around_0(source.randint(0, 3), many) + draw_room(source, many, 2, source.randint(0, 1), low=0)
            rows = around_0(source.randint(1, 6), many)[source.randint(0, 1):]
            claim = Settles(start, rows, source.randint(0, 2))
            shape = LINE if many == 1 else [(1, 0), (-1, 0), (0, 1), (0, -1)]
            kind = self.check(thing, claim, shape, 5, 4)
            seen[kind] += 1
            self.check_words(thing, claim, shape, kind)
            if kind == "held":
                for other in range(3):
                    run, points = draw_run(source, thing, draw_start(source, start, many), 5)
                    self.assertTrue(keeps_settles(claim, points))
        self.assertGreater(min(seen.values()), 10)

    def check_words(self, thing, claim, shape, kind):
        """Broken just where the document's words ask for it; held only where there is a room."""
        broken = False
        if thing.is_plain():
            for turn in range(claim.turn, 5):
                for row in claim.rows:
                    found = worst(thing, claim.start, row, turn)
                    broken = broken or found[0] == "open" or (
                        found[0] == "most" and found[1][0] > row[-1] * found[1][1])
        self.assertIs(kind == "broken", broken)
        if grown(thing, claim.start, shape, 5) is None:
            self.assertNotEqual(kind, "held")

    def test_what_is_handed_in_stays(self):
        claim = Settles(between(-3, 3), between(-2, 2))
        shape = list(LINE)
        judge(HALVING, claim, shape, 3, 3)
        self.assertEqual((claim.start, claim.rows, shape), (between(-3, 3), between(-2, 2), LINE))

    def test_long_numbers(self):
        thing = Thing(1, [(-LONG, LONG)], [Mode([], [[1]], [0], [[1]], [0], 2)])
        room = between(-LONG, LONG)
        self.assertEqual(self.check(thing, Settles(room, room), LINE, 0, 9), "held")
        self.assertEqual(self.check(thing, Settles(room, between(-LONG, LONG - 1)), LINE, 0, 9), "broken")


if __name__ == "__main__":
    unittest.main()
