"""Rows that cost least, with a paper by which it is seen that none costs less."""

from slidehall.pushing import pushes_with_ends
from slidehall.rows import cost_of, costs_together, meets
from slidehall.spreading import refuse_too_many, row_to


class Found:
    def __init__(self, stand):
        self.costs = {stand: (0, 0)}
        # For each stand the push and the stand that led to it.
        self.ways = {stand: None}
        # By what they cost: the stands whose pushes are not yet gone through.
        self.waiting = {(0, 0): [stand]}

    def note(self, end, cost, way):
        if end not in self.costs or cost < self.costs[end]:
            self.costs[end] = cost
            self.ways[end] = way
            self.waiting.setdefault(cost, []).append(end)


def go_on(found, hall, stand, by):
    cost = found.costs[stand]
    for push, end in pushes_with_ends(hall, stand):
        found.note(end, costs_together(cost, cost_of([push], by)), (push, stand))
    refuse_too_many(found.costs)


def found_from(hall, stand, by):
    found = Found(stand)
    while found.waiting != {}:
        # Every push costs something, so what costs least of all that waits is never found cheaper later.
        cost = min(found.waiting)
        due = found.waiting.pop(cost)
        for reached in due:
            if found.costs[reached] == cost:
                go_on(found, hall, reached, by)
    return found


def least(hall, stand, goals, by):
    found = found_from(hall, stand, by)
    paper = sorted(found.costs.items())
    ends = [(cost, end) for end, cost in paper if meets(hall, end, goals)]
    if ends == []:
        return ("none", paper)
    cost, end = min(ends)
    return ("row", row_to(found.ways, end), cost, paper)
