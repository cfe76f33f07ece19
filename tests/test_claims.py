"""Points 2 and 20: claims."""

import unittest

from helpers import LONG, Case
from steadyhand.claims import Claim, Comes, Settles


class ClaimsTest(Case):
    def test_classes_straight_under_claim(self):
        self.assertEqual(Settles.__bases__, (Claim,))
        self.assertEqual(Comes.__bases__, (Claim,))
        self.assertEqual(Claim.__bases__, (object,))

    def test_fields(self):
        claim = Settles([(1, 2)], [(3, 4), (5, 6)], 7)
        self.assertEqual((claim.start, claim.rows, claim.turn), ([(1, 2)], [(3, 4), (5, 6)], 7))
        claim = Comes([(1, 2)], [(3, 4), (5, 6)], 7)
        self.assertEqual((claim.start, claim.goal, claim.turns), ([(1, 2)], [(3, 4), (5, 6)], 7))
        claim = Settles(start=[], rows=[], turn=LONG)
        self.assertEqual((claim.start, claim.rows, claim.turn), ([], [], LONG))
        claim = Comes(start=[], goal=[(LONG, -LONG)], turns=0)
        self.assertEqual((claim.start, claim.goal, claim.turns), ([], [(LONG, -LONG)], 0))

    def test_the_turn_left_out_is_0(self):
        self.assertEqual(Settles([(1, 2)], [(3, 4)]).turn, 0)

    def test_lists_handed_in_and_changed_later(self):
        start = [(1, 2)]
        rows = [(3, 4)]
        claims = (Settles(start, rows, 1), Comes(start, rows, 2))
        start[0] = (9, 9)
        start.append((8, 8))
        rows.clear()
        for claim, told in zip(claims, (claims[0].rows, claims[1].goal)):
            self.assertEqual((claim.start, told), ([(1, 2)], [(3, 4)]))

    def test_lists_within_lists_changed_later(self):
        inner = [1, 2]
        claims = (Settles([inner], [inner]), Comes([inner], [inner], 2))
        inner.append(3)
        self.assertEqual((claims[0].start, claims[0].rows), ([[1, 2]], [[1, 2]]))
        self.assertEqual((claims[1].start, claims[1].goal), ([[1, 2]], [[1, 2]]))

    def test_one_list_for_both(self):
        room = [(1, 2)]
        claim = Settles(room, room)
        claim.start.append((3, 4))
        self.assertEqual(claim.rows, [(1, 2)])
        self.assertEqual(room, [(1, 2)])


if __name__ == "__main__":
    unittest.main()
