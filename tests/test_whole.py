"""Points 1 and 3 over the whole program: things told as texts, steered, run, judged, held."""

import itertools
import unittest

from helpers import Case, drawn, draw_between, exact, told
from paper_helpers import draw_run, draw_start, keeps_settles
from steadyhand.claims import Settles
from steadyhand.desk import Desk
from steadyhand.games import foe, held_rooms, holder
from steadyhand.judging import Broken, GivenUp, Held, judge
from steadyhand.papers import lets_by
from steadyhand.rows import lies_in
from steadyhand.rules import Straight
from steadyhand.runs import walked
from steadyhand.steering import late, rounded, steered
from steadyhand.texts import read_claim, read_point, read_rule, read_run, read_thing, show_claim, show_rule

# A place and a speed; the steering changes the speed, a push the place.
CART = "numbers 2\npush -1 1\nmode 2\nnext 2 1 0 1 0\nnext 0 2 1 0 0"
RULE = "straight -1 -2 0 1"
CLAIM = "settles 0 | 1 0 4, -1 0 4, 0 1 4, 0 -1 4 | 1 0 20, -1 0 20"
SHAPE = [(1, 0), (-1, 0), (0, 1), (0, -1), (1, 1), (-1, -1), (1, -1), (-1, 1)]
SHAPE_TEXT = "1 0, -1 0, 0 1, 0 -1, 1 1, -1 -1, 1 -1, -1 1"


class JudgedTest(Case):
    def test_held(self):
        thing = steered(read_thing(CART), read_rule(RULE, 2))
        claim = read_claim(CLAIM, 2)
        verdict = judge(thing, claim, SHAPE, 40, 6)
        self.assertIsInstance(verdict, Held)
        self.assertIs(lets_by(thing, claim, verdict.paper), True)
        source = drawn(131)
        for turn in range(20):
            run, points = draw_run(source, thing, draw_start(source, claim.start, 2), 12)
            self.assertTrue(keeps_settles(claim, points))
        desk = Desk()
        desk.say("thing\n" + CART)
        desk.say("steer " + RULE)
        self.assertEqual(desk.say(f"judge 40 6 | {SHAPE_TEXT} | {CLAIM}"), "held")

    def test_broken_with_the_run_walked(self):
        desk = Desk()
        desk.say("thing\n" + CART)
        desk.say("steer straight 1 1 0 1")
        told_text = desk.say(f"judge 40 6 | {SHAPE_TEXT} | {CLAIM}")
        word, point, run = told_text[:6], told_text[7:].split(" | ")[0], told_text.split(" | ")[1]
        self.assertEqual(word, "broken")
        points = desk.say(f"walk {point} | {run}").split("; ")
        claim = read_claim(CLAIM, 2)
        self.assertTrue(lies_in(claim.start, read_point(points[0], 2)))
        self.assertFalse(lies_in(claim.rows, read_point(points[-1], 2)))
        thing = steered(read_thing(CART), Straight([1, 1], 0))
        self.assertEqual(walked(thing, read_point(point, 2), read_run(run, 1))[-1], read_point(points[-1], 2))

    def test_given_up(self):
        desk = Desk()
        desk.say("thing\n" + CART)
        desk.say("steer " + RULE)
        self.assertEqual(desk.say(f"judge 0 0 | 1 0, -1 0, 0 1, 0 -1 | {CLAIM}"), "given up")
        self.assertEqual(desk.say(f"judge 40 6 | {SHAPE_TEXT} | comes 9 | all | all"), "given up")

    def test_steered_in_the_three_ways(self):
        thing = read_thing("numbers 1\npush -1 1\nmode 1\nnext 1 1 1 0")
        rule = read_rule("straight -1 0 2", 1)
        start = [(1, 2), (-1, 2)]
        line = [(1,), (-1,)]
        for made, claim, shape in (
                (steered(thing, rule), Settles(start, [(1, 3), (-1, 3)]), line),
                (rounded(thing, rule, 1), Settles(start, [(1, 4), (-1, 4)]), line),
                (late(thing, read_rule("straight -1 0 4", 1)),
                 Settles([(1, 0, 2), (-1, 0, 2), (0, 1, 0), (0, -1, 0)], [(1, 0, 30), (-1, 0, 30)]), SHAPE)):
            verdict = judge(made, claim, shape, 40, 6)
            self.assertNotIsInstance(verdict, Broken)
            if isinstance(verdict, Held):
                self.assertIs(lets_by(made, claim, verdict.paper), True)
        self.assertIsInstance(judge(steered(thing, rule), Settles(start, [(1, 3), (-1, 3)]), line, 40, 6), Held)
        self.assertIsInstance(judge(rounded(thing, rule, 1), Settles(start, [(1, 4), (-1, 4)]), line, 40, 6), Held)
        self.assertIsInstance(judge(steered(thing, rule), Settles(start, [(1, 1), (-1, 3)]), line, 40, 6), Broken)
        self.assertIsInstance(judge(steered(thing, rule), Settles(start, [(1, 3), (-1, 3)]), [(1,)], 9, 3), GivenUp)

    def test_a_rule_of_several_pieces(self):
        thing = read_thing("numbers 1\npush -1 1\nmode 1\nnext 1 1 1 0")
        made = steered(thing, read_rule("stopped -2 2 straight -1 0 1", 1))
        claim = Settles([(1, 9), (-1, 9)], [(1, 9), (-1, 9)])
        verdict = judge(made, claim, [(1,), (-1,)], 5, 5)
        self.assertIsInstance(verdict, Held)
        self.assertEqual(show_claim(read_claim(show_claim(claim), 1)), show_claim(claim))
        self.assertEqual(show_rule(read_rule(RULE, 2)), RULE)


class HeldAgainstEveryPushTest(Case):
    def test_the_holder_keeps_it_and_the_foe_throws_it_out(self):
        thing = read_thing(CART)
        safe = [(1, 0, 6), (-1, 0, 6), (0, 1, 6), (0, -1, 6)]
        rooms = held_rooms(thing, safe, -2, 2, 3)
        source = drawn(132)
        seen = {True: 0, False: 0}
        for place, speed in itertools.product(range(-6, 7, 2), repeat=2):
            point = [told(place), told(speed)]
            held = lies_in(rooms[3], point)
            seen[held] += 1
            ends = [self.played(source, thing, safe, point, held) for turn in range(3)]
            self.assertEqual(ends, [held] * 3)
        self.assertGreater(min(seen.values()), 5)

    def played(self, source, thing, safe, point, held):
        """Whether it stays in the safe room: against drawn pushes where it is held, else against drawn steerings."""
        for turns in (3, 2, 1):
            steering = holder(thing, safe, -2, 2, turns, point) if held else draw_between(source, -2, 2)
            pushes = foe(thing, safe, -2, 2, turns, point, steering)
            if held:
                self.assertIsNone(pushes)
                pushes = [draw_between(source, -1, 1)]
            self.assertTrue(-2 <= exact(steering) <= 2)
            point = walked(thing, point, [(0, steering, pushes)])[-1]
            if not lies_in(safe, point):
                return False
        return True


if __name__ == "__main__":
    unittest.main()
