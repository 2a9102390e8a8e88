"""The small checker of rows that are put together part by part."""

from slidehall.halls import is_cell, is_number, is_tuple_of
from slidehall.leastcheck import is_push, shows_least
from slidehall.parting import goals_of, part_of, parts_with_goals, rows_together


def are_numbers(thing):
    return isinstance(thing, list) and all([is_number(n) for n in thing])


def shows_part(hall, stand, goals, by, numbers, told):
    alone, its_stand = part_of(hall, stand, numbers)
    return shows_least(alone, its_stand, goals_of(goals, numbers), by, told)


def shows_part_none(hall, stand, goals, by, told):
    word, numbers, paper = told
    if not are_numbers(numbers) or numbers not in parts_with_goals(hall, stand, goals):
        return False
    return shows_part(hall, stand, goals, by, numbers, ("none", paper))


def is_row_of(numbers, thing):
    # That of four parts it is a row, not none, is seen where the part is looked at.
    if not is_tuple_of(thing, 2) or not is_tuple_of(thing[1], 4):
        return False
    return are_numbers(thing[0]) and thing[0] == numbers


def are_rows_of_parts(hall, stand, goals, by, thing):
    due = parts_with_goals(hall, stand, goals)
    if not isinstance(thing, list) or len(thing) != len(due):
        return False
    for k, numbers in enumerate(due):
        if not is_row_of(numbers, thing[k]) or not shows_part(hall, stand, goals, by, numbers, thing[k][1]):
            return False
    return True


def shows_part_rows(hall, stand, goals, by, told):
    word, pushes, cost, rows = told
    if not isinstance(pushes, list) or not all([is_push(hall, push) for push in pushes]) or not is_cell(cost):
        return False
    return are_rows_of_parts(hall, stand, goals, by, rows) and rows_together(rows) == (pushes, cost)


def shows_by_parts(hall, stand, goals, by, told):
    if is_tuple_of(told, 3) and told[0] == "none":
        return shows_part_none(hall, stand, goals, by, told)
    if is_tuple_of(told, 4) and told[0] == "row":
        return shows_part_rows(hall, stand, goals, by, told)
    return False
