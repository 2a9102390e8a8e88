"""The small checker of rows that cost least: it sees by the paper alone that none costs less."""

from slidehall.errors import Barred
from slidehall.halls import is_cell, is_number, is_stand, is_tuple_of
from slidehall.pushing import pushes_with_ends
from slidehall.rows import cost_of, costs_together, meets, played


def is_push(hall, thing):
    if not is_tuple_of(thing, 3) or not all([is_number(part) for part in thing]):
        return False
    n, direction, many = thing
    return 0 <= n < len(hall[3]) and 0 <= direction < 4 and many >= 1


def end_of(hall, stand, thing):
    # None where it is no row of pushes, or one of them isn't let by.
    if not isinstance(thing, list) or not all([is_push(hall, push) for push in thing]):
        return None
    try:
        stands = played(hall, stand, thing)
    except Barred:
        return None
    return stands[-1]


def costs_on(hall, thing):
    # None where it is no list of stands, each once, with costs.
    if not isinstance(thing, list):
        return None
    costs = {}
    for pair in thing:
        # A cost is made like a cell: a pair of numbers.
        if not is_tuple_of(pair, 2) or not is_stand(hall, pair[0]) or not is_cell(pair[1]):
            return None
        if pair[0] in costs:
            return None
        costs[pair[0]] = pair[1]
    return costs


def no_push_undercuts(hall, by, costs):
    for stand, cost in costs.items():
        for push, end in pushes_with_ends(hall, stand):
            if end not in costs or costs[end] > costs_together(cost, cost_of([push], by)):
                return False
    return True


def costs_that_meet(hall, stand, goals, by, paper):
    # The costs of the stands that meet the goals; None where the paper is not as it must be.
    costs = costs_on(hall, paper)
    if costs is None or costs.get(stand) != (0, 0) or not no_push_undercuts(hall, by, costs):
        return None
    return [cost for end, cost in costs.items() if meets(hall, end, goals)]


def shows_none(hall, stand, goals, by, paper):
    return costs_that_meet(hall, stand, goals, by, paper) == []


def shows_row(hall, stand, goals, by, told):
    word, pushes, cost, paper = told
    end = end_of(hall, stand, pushes)
    if end is None or not meets(hall, end, goals):
        return False
    if not is_cell(cost) or cost != cost_of(pushes, by):
        return False
    costs = costs_that_meet(hall, stand, goals, by, paper)
    return costs is not None and all([met >= cost for met in costs])


def shows_least(hall, stand, goals, by, told):
    if is_tuple_of(told, 2) and told[0] == "none":
        return shows_none(hall, stand, goals, by, told[1])
    if is_tuple_of(told, 4) and told[0] == "row":
        return shows_row(hall, stand, goals, by, told)
    return False
