"""Rows of pushes: played, taken back, put together and counted; and goals."""

from slidehall.errors import Barred
from slidehall.halls import within
from slidehall.pushing import back_of, pushed


def played(hall, stand, pushes):
    stands = [stand]
    for number, push in enumerate(pushes):
        try:
            end = pushed(hall, stands[number], push)
        except Barred as refusal:
            # A push by itself tells itself as number 0.
            raise Barred(number, refusal.step) from None
        stands.append(end)
    return stands


def taken_back(hall, stand, pushes):
    # All are played first, since a barred push is told ahead of one that can't be taken back.
    stands = played(hall, stand, pushes)
    backs = [back_of(hall, stands[number], push) for number, push in enumerate(pushes)]
    if None in backs:
        return None
    return list(reversed(backs))


def put_together(pushes):
    together = []
    for push in pushes:
        n, direction, many = push
        if together != [] and together[-1][:2] == (n, direction):
            # What was put together before goes on growing, so three and more become one.
            together[-1] = (n, direction, together[-1][2] + many)
        else:
            together.append(push)
    return together


def cost_of(pushes, by):
    steps = sum([push[2] for push in pushes])
    if by == "pushes":
        return (len(pushes), steps)
    return (steps, len(pushes))


def costs_together(one, other):
    return (one[0] + other[0], one[1] + other[1])


def is_met(hall, stand, goal):
    n, cell = goal
    kind = hall[3][n]
    x, y = stand[n]
    return within(kind[0], kind[1], (cell[0] - x, cell[1] - y))


def meets(hall, stand, goals):
    return all([is_met(hall, stand, goal) for goal in goals])
