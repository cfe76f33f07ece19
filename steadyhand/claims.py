"""Claims on a closed thing: that it settles in a room, or comes into one."""

from steadyhand.tables import copied


class Claim:
    pass


class Settles(Claim):
    def __init__(self, start, rows, turn=0):
        self.start = copied(start)
        self.rows = copied(rows)
        self.turn = turn


class Comes(Claim):
    def __init__(self, start, goal, turns):
        self.start = copied(start)
        self.goal = copied(goal)
        self.turns = turns
