"""Verdicts on a claim: held with a paper, broken by a run, or given up."""

from steadyhand.claims import Settles
from steadyhand.finding import room_paper
from steadyhand.growing import grown
from steadyhand.most import point_beyond
from steadyhand.tables import copied
from steadyhand.things import ask_closed
from steadyhand.worst import pulled_back


class Verdict:
    pass


class Held(Verdict):
    def __init__(self, paper):
        self.paper = paper

    def held(self):
        return True


class Broken(Verdict):
    def __init__(self, point, run):
        self.point = copied(point)
        self.run = copied(run)

    def held(self):
        return False


class GivenUp(Verdict):
    def held(self):
        return False


def judge(thing, claim, shape, tries, turns):
    ask_closed(thing)
    if not isinstance(claim, Settles):
        return GivenUp()
    if thing.is_plain():
        for turn in range(claim.turn, turns + 1):
            found = broken_at(thing, claim, turn)
            if found is not None:
                return Broken(found[0], found[1])
    room = grown(thing, claim.start, shape, tries)
    if room is None:
        return GivenUp()
    paper = room_paper(thing, claim, room)
    if paper is None:
        return GivenUp()
    return Held(paper)


def broken_at(thing, claim, turn):
    for row in claim.rows:
        pulled = pulled_back(thing, row, turn)
        point = point_beyond(claim.start, pulled[0])
        if point is not None:
            return (point, pulled[1])
    return None
