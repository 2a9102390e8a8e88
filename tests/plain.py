"""A plain second reading of the document, slow and by its words, which the tests hold the program against."""

import functools
import random

EAST, NORTH, WEST, SOUTH = range(4)
DIRECTIONS = (EAST, NORTH, WEST, SOUTH)
WEAK = (1, 1, "any", 0)
MIGHTY = (1, 1, "any", 1)
BLUNT = (1, 1, "any", -1)
SIDES = (1, 1, 1, 2, 2, 3)


def cells_of(kind, place):
    return {(place[0] + i, place[1] + j) for i in range(kind[0]) for j in range(kind[1])}


def moved_cells(cells, direction):
    return {(x + (1, 0, -1, 0)[direction], y + (0, 1, 0, -1)[direction]) for x, y in cells}


def plain_movers(hall, stand, n, direction):
    # By the words of the document alone, with sets of cells, growing the movers until none joins.
    wide, high, walls, kinds = hall
    cells = [cells_of(kind, place) for kind, place in zip(kinds, stand)]
    going = {n}
    while True:
        aim = set().union(*[moved_cells(cells[m], direction) for m in going])
        joined = going | {m for m in range(len(kinds)) if cells[m] & aim}
        if joined == going:
            break
        going = joined
    inside = all(0 <= x < wide and 0 <= y < high for x, y in aim)
    ways = ("any", "row") if direction in (EAST, WEST) else ("any", "column")
    can_go = all(kinds[m][2] in ways for m in going)
    strength = kinds[n][3]
    if strength == -1 or not can_go or not inside or aim & set(walls) or (len(going) > 1 and strength != 1):
        return None
    return tuple(sorted(going))


def plain_stands(hall, stand, n, direction):
    stands = []
    going = plain_movers(hall, stand, n, direction)
    while going is not None:
        stand = tuple(
            min(moved_cells({place}, direction)) if m in going else place for m, place in enumerate(stand)
        )
        stands.append(stand)
        going = plain_movers(hall, stand, n, direction)
    return stands


def some_hall(chance, side, trolleys):
    # A hall with a stand, filled trolley by trolley wherever there is room.
    wide, high = chance.randint(1, side), chance.randint(1, side)
    cells = [(x, y) for x in range(wide) for y in range(high)]
    chance.shuffle(cells)
    walls = set(cells[:chance.randint(0, len(cells) // 9)])
    taken, kinds, stand = set(walls), [], []
    most = chance.randint(0, trolleys)
    for cell in cells:
        ways = chance.choice(("any", "any", "any", "any", "row", "column", "none"))
        kind = (chance.choice(SIDES), chance.choice(SIDES), ways, chance.choice((1, 1, 0, -1)))
        covers = cells_of(kind, cell)
        if len(kinds) < most and covers <= set(cells) and not covers & taken:
            taken |= covers
            kinds.append(kind)
            stand.append(cell)
    return (wide, high, tuple(sorted(walls)), tuple(kinds)), tuple(stand)


@functools.lru_cache(None)
def plain_ends(hall, stand):
    ends = []
    for n in range(len(stand)):
        for direction in DIRECTIONS:
            stands = plain_stands(hall, stand, n, direction)
            ends += [((n, direction, many), end) for many, end in enumerate(stands, 1)]
    return ends


@functools.lru_cache(None)
def plain_layers(hall, stand):
    seen, layer, layers = {stand}, {stand}, []
    while layer:
        layers.append(sorted(layer))
        layer = {end for one in layer for push, end in plain_ends(hall, one)} - seen
        seen |= layer
    return layers


def plain_come_to(hall, stand):
    return sorted(sum(plain_layers(hall, stand), []))


def push_cost(push, by):
    return (1, push[2]) if by == "pushes" else (push[2], 1)


def sum_of(one, other):
    return (one[0] + other[0], one[1] + other[1])


def plain_costs(hall, stand, by):
    # Made less by each push of each stand, over and over, until none makes one less.
    costs = {stand: (0, 0)}
    before = None
    while before != costs:
        before = dict(costs)
        for one, cost in before.items():
            for push, end in plain_ends(hall, one):
                further = sum_of(cost, push_cost(push, by))
                costs[end] = min(costs.get(end, further), further)
    return costs


def plain_meets(hall, stand, goals):
    return all(cell in cells_of(hall[3][n], stand[n]) for n, cell in goals)


def paper_is_right(hall, stand, goals, by, paper, cost):
    # By the words, but for how the paper rises; cost is None where no row is told.
    costs = dict(paper)
    if len(costs) != len(paper) or costs.get(stand) != (0, 0):
        return False
    for one, its_cost in paper:
        if plain_meets(hall, one, goals) and (cost is None or its_cost < cost):
            return False
        for push, end in plain_ends(hall, one):
            if end not in costs or costs[end] > sum_of(its_cost, push_cost(push, by)):
                return False
    return True


def plain_reach(hall, stand, most):
    seen, waiting = {stand}, [stand]
    while waiting and len(seen) <= most:
        new = {end for push, end in plain_ends(hall, waiting.pop())} - seen
        seen |= new
        waiting += sorted(new)
    return seen


def small_halls(many):
    # Few cells and few trolleys, so that all stands can be gone through, but not so few that nothing happens.
    halls = []
    seed = 0
    while len(halls) < many:
        seed += 1
        hall, stand = some_hall(random.Random(seed), 5, 5)
        if len(stand) > 1 and 5 < len(plain_reach(hall, stand, 150)) <= 150:
            halls.append((hall, stand))
    return halls


SOME_HALLS = [some_hall(random.Random(seed), 9, 12) for seed in range(300)]
SMALL_HALLS = small_halls(120)


def shelf_hall(positions):
    # Row y has one trolley, which has positions[y] places there; it comes to each of the others by one push.
    kinds = tuple((10 - many, 1, "row", 0) for many in positions)
    return (9, len(positions), (), kinds), tuple((0, y) for y in range(len(positions)))


def walled(rows):
    # The walls of a picture, the greatest y first.
    high = len(rows)
    return tuple(sorted((x, high - 1 - k) for k, row in enumerate(rows) for x, sign in enumerate(row) if sign == "#"))


# Rooms of 29, 3 and 23 cells with one trolley each: 2,001 stands are come to.
ROOMS = (9, 9, walled([
    "######.#.",
    ".......#.",
    ".......#.",
    ".......##",
    ".......##",
    "#########",
    "##.......",
    "........#",
    "........#",
]), (WEAK, WEAK, WEAK))
ROOMS_STAND = ((0, 4), (8, 7), (0, 0))
