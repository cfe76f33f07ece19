"""The worst that a plain closed thing comes to at a turn, and the run that comes to it."""

from steadyhand.fractions import fraction
from steadyhand.most import most
from steadyhand.reach import reach, without_pushes, worst_pushes
from steadyhand.rows import along
from steadyhand.runs import walked
from steadyhand.things import ask_closed, ask_plain


def pulled_back(thing, row, turns):
    # The row that a point holds just where, so many turns later, the row holds on every run of the plain closed thing;
    # and a run that is the worst from every point, for the pushes that are worst do not hang on the point.
    mode = thing.modes()[0]
    run = []
    for turn in range(turns):
        ahead = reach(thing, mode, row)
        pushes = [fraction(push) for push in worst_pushes(thing, ahead)]
        run = [(0, fraction(0), pushes)] + run
        row = without_pushes(thing, ahead)
    return (row, run)


def worst(thing, start, row, turns):
    ask_closed(thing)
    ask_plain(thing)
    pulled = pulled_back(thing, row, turns)
    found = most(start, pulled[0])
    if found[0] != "most":
        return (found[0],)
    points = walked(thing, found[3], pulled[1])
    return ("most", along(row, points[-1]), found[3], pulled[1])
