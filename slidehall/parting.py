"""Parts of a hall, whose trolleys are never in one another's way, and rows put together of the parts' rows."""

from slidehall.halls import covered
from slidehall.keeping import places_alone
from slidehall.leasts import least
from slidehall.rows import costs_together


def reach_of(hall, stand, n):
    kind = hall[3][n]
    cells = []
    for place in places_alone(hall, kind, stand[n]):
        cells.extend(covered(kind, place))
    return sorted(set(cells))


def share_a_cell(one, other):
    return len(set(one) & set(other)) > 0


def parts(hall, stand):
    reaches = [reach_of(hall, stand, n) for n in range(len(stand))]
    found = []
    for n, reach in enumerate(reaches):
        # One trolley may join several parts that hung together by nothing before.
        joined = [n]
        apart = []
        for numbers in found:
            if any([share_a_cell(reach, reaches[other]) for other in numbers]):
                joined.extend(numbers)
            else:
                apart.append(numbers)
        found = apart + [sorted(joined)]
    return sorted(found)


def part_of(hall, stand, numbers):
    wide, high, walls, kinds = hall
    alone = (wide, high, walls, tuple([kinds[n] for n in numbers]))
    return (alone, tuple([stand[n] for n in numbers]))


def goals_of(goals, numbers):
    return [(numbers.index(n), cell) for n, cell in goals if n in numbers]


def parts_with_goals(hall, stand, goals):
    return [numbers for numbers in parts(hall, stand) if goals_of(goals, numbers) != []]


def rows_together(rows):
    # rows has pairs of a part's numbers and what least tells of it, a row each time.
    pushes = []
    cost = (0, 0)
    for numbers, told in rows:
        pushes.extend([(numbers[n], direction, many) for n, direction, many in told[1]])
        cost = costs_together(cost, told[2])
    return (pushes, cost)


def least_by_parts(hall, stand, goals, by):
    rows = []
    for numbers in parts_with_goals(hall, stand, goals):
        alone, its_stand = part_of(hall, stand, numbers)
        told = least(alone, its_stand, goals_of(goals, numbers), by)
        if told[0] == "none":
            return ("none", numbers, told[1])
        rows.append((numbers, told))
    pushes, cost = rows_together(rows)
    return ("row", pushes, cost, rows)
