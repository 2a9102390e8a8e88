"""A plain second reading of the document, slow and by its words, which the tests hold the program against."""

import functools
import itertools
import random

EAST, NORTH, WEST, SOUTH = range(4)
DIRECTIONS = (EAST, NORTH, WEST, SOUTH)
WEAK = (1, 1, "any", 0)
MIGHTY = (1, 1, "any", 1)
BLUNT = (1, 1, "any", -1)
SIDES = (1, 1, 1, 2, 2, 3)


def cells_of(kind, place):
    return {(place[0] + i, place[1] + j) for i in range(kind[0]) for j in range(kind[1])}


def moved_cells(cells, direction):
    return {(x + (1, 0, -1, 0)[direction], y + (0, 1, 0, -1)[direction]) for x, y in cells}


def plain_movers(hall, stand, n, direction):
    # By the words of the document alone, with sets of cells, growing the movers until none joins.
    wide, high, walls, kinds = hall
    cells = [cells_of(kind, place) for kind, place in zip(kinds, stand)]
    going = {n}
    while True:
        aim = set().union(*[moved_cells(cells[m], direction) for m in going])
        joined = going | {m for m in range(len(kinds)) if cells[m] & aim}
        if joined == going:
            break
        going = joined
    inside = all(0 <= x < wide and 0 <= y < high for x, y in aim)
    ways = ("any", "row") if direction in (EAST, WEST) else ("any", "column")
    can_go = all(kinds[m][2] in ways for m in going)
    strength = kinds[n][3]
    if strength == -1 or not can_go or not inside or aim & set(walls) or (len(going) > 1 and strength != 1):
        return None
    return tuple(sorted(going))


def plain_stands(hall, stand, n, direction):
    stands = []
    going = plain_movers(hall, stand, n, direction)
    while going is not None:
        stand = tuple(
            min(moved_cells({place}, direction)) if m in going else place for m, place in enumerate(stand)
        )
        stands.append(stand)
        going = plain_movers(hall, stand, n, direction)
    return stands


def some_hall(chance, side, trolleys):
    # A hall with a stand, filled trolley by trolley wherever there is room.
    wide, high = chance.randint(1, side), chance.randint(1, side)
    cells = [(x, y) for x in range(wide) for y in range(high)]
    chance.shuffle(cells)
    walls = set(cells[:chance.randint(0, len(cells) // 9)])
    taken, kinds, stand = set(walls), [], []
    most = chance.randint(0, trolleys)
    for cell in cells:
        ways = chance.choice(("any", "any", "any", "any", "row", "column", "none"))
        kind = (chance.choice(SIDES), chance.choice(SIDES), ways, chance.choice((1, 1, 0, -1)))
        covers = cells_of(kind, cell)
        if len(kinds) < most and covers <= set(cells) and not covers & taken:
            taken |= covers
            kinds.append(kind)
            stand.append(cell)
    return (wide, high, tuple(sorted(walls)), tuple(kinds)), tuple(stand)


@functools.lru_cache(None)
def plain_ends(hall, stand):
    ends = []
    for n in range(len(stand)):
        for direction in DIRECTIONS:
            stands = plain_stands(hall, stand, n, direction)
            ends += [((n, direction, many), end) for many, end in enumerate(stands, 1)]
    return ends


@functools.lru_cache(None)
def plain_layers(hall, stand):
    seen, layer, layers = {stand}, {stand}, []
    while layer:
        layers.append(sorted(layer))
        layer = {end for one in layer for push, end in plain_ends(hall, one)} - seen
        seen |= layer
    return layers


def plain_come_to(hall, stand):
    return sorted(sum(plain_layers(hall, stand), []))


def push_cost(push, by):
    return (1, push[2]) if by == "pushes" else (push[2], 1)


def sum_of(one, other):
    return (one[0] + other[0], one[1] + other[1])


def plain_costs(hall, stand, by):
    # Made less by each push of each stand, over and over, until none makes one less.
    costs = {stand: (0, 0)}
    before = None
    while before != costs:
        before = dict(costs)
        for one, cost in before.items():
            for push, end in plain_ends(hall, one):
                further = sum_of(cost, push_cost(push, by))
                costs[end] = min(costs.get(end, further), further)
    return costs


def plain_meets(hall, stand, goals):
    return all(cell in cells_of(hall[3][n], stand[n]) for n, cell in goals)


def some_goals(chance, hall, stand, many):
    # Half of them anywhere, half where a trolley comes to be at one of the stands.
    cells = [(x, y) for x in range(hall[0]) for y in range(hall[1])]
    end = chance.choice(plain_come_to(hall, stand))
    goals = []
    for k in range(many):
        n = chance.randrange(len(hall[3]))
        goals.append((n, chance.choice((end[n], chance.choice(cells)))))
    return goals


def paper_is_right(hall, stand, goals, by, paper, cost):
    # By the words, but for how the paper rises; cost is None where no row is told.
    costs = dict(paper)
    if len(costs) != len(paper) or costs.get(stand) != (0, 0):
        return False
    for one, its_cost in paper:
        if plain_meets(hall, one, goals) and (cost is None or its_cost < cost):
            return False
        for push, end in plain_ends(hall, one):
            if end not in costs or costs[end] > sum_of(its_cost, push_cost(push, by)):
                return False
    return True


def deep_in(thing, depth, kind):
    for k in range(depth):
        thing = kind([thing])
    return thing


# What the checkers may be asked of in the place of anything.
THINGS = (
    None, True, False, 0, 1, -1, 2, 10 ** 30, "", "row", "none", "kept", "closed", "sides", (), [], (0,), [0], (0, 0),
    [0, 0], (0, 0, 1), (True, False), ((0, 0),), [(0, 0)], ((),), [[]], ("row", [], (0, 0), []), ("none", []),
    deep_in(0, 9, tuple), deep_in("a", 9, list),
)


def spoiled(thing):
    # Everything that thing becomes when it, or one part of it, is another thing, is missing or is there twice.
    yield from THINGS
    if isinstance(thing, int):
        yield from (thing + 1, thing - 1, -thing, str(thing), bool(thing), [thing], (thing,))
    elif isinstance(thing, str):
        yield from (thing + "s", thing[:-1], thing.upper(), [thing], (thing,), list(thing))
    elif isinstance(thing, (list, tuple)):
        kind = type(thing)
        yield from (list(thing), tuple(thing), [thing], (thing,), kind(thing[::-1]))
        for k, part in enumerate(thing):
            yield thing[:k] + thing[k + 1:]
            yield thing[:k] + thing[k:k + 1] * 2 + thing[k + 1:]
            for other in spoiled(part):
                yield thing[:k] + kind([other]) + thing[k + 1:]
        yield from (thing + kind([other]) for other in THINGS)


def is_made_of(thing, kind, many):
    # A tuple of so many, or a list of any many, of what kind takes.
    if many is None:
        return type(thing) is list and all(kind(part) for part in thing)
    return type(thing) is tuple and len(thing) == many and all(kind(part) for part in thing)


def is_plain_number(thing):
    return type(thing) is int


def is_pair_of_numbers(thing):
    return is_made_of(thing, is_plain_number, 2)


def plain_is_stand(hall, thing):
    if not is_made_of(thing, is_pair_of_numbers, len(hall[3])):
        return False
    cells = [cell for kind, place in zip(hall[3], thing) for cell in cells_of(kind, place)]
    inside = {(x, y) for x in range(hall[0]) for y in range(hall[1])} - set(hall[2])
    return len(cells) == len(set(cells)) and set(cells) <= inside


def plain_shows_least(hall, stand, goals, by, told):
    def is_pair(thing):
        if type(thing) is not tuple or len(thing) != 2:
            return False
        return plain_is_stand(hall, thing[0]) and is_pair_of_numbers(thing[1])

    if type(told) is not tuple or len(told) not in (2, 4) or told[0] != {2: "none", 4: "row"}[len(told)]:
        return False
    if not is_made_of(told[-1], is_pair, None):
        return False
    if len(told) == 2:
        return paper_is_right(hall, stand, goals, by, told[1], None)
    word, pushes, cost, paper = told
    if not is_made_of(pushes, lambda push: is_made_of(push, is_plain_number, 3), None) or not is_pair_of_numbers(cost):
        return False
    end, total = stand, (0, 0)
    for push in pushes:
        end = dict(plain_ends(hall, end)).get(push)
        if end is None:
            return False
        total = sum_of(total, push_cost(push, by))
    return plain_meets(hall, end, goals) and cost == total and paper_is_right(hall, stand, goals, by, paper, cost)


def plain_reach(hall, stand, most):
    seen, waiting = {stand}, [stand]
    while waiting and len(seen) <= most:
        new = {end for push, end in plain_ends(hall, waiting.pop())} - seen
        seen |= new
        waiting += sorted(new)
    return seen


def plain_floor(hall):
    return {(x, y) for x in range(hall[0]) for y in range(hall[1])} - set(hall[2])


def plain_sides(hall, stand):
    found = []
    for kind, place in zip(hall[3], stand):
        alone = hall[:3] + ((kind[:3] + (0,),),)
        found.append(min(plain_reach(alone, (place,), 999))[0])
    return tuple(found)


def plain_lines(hall, stand):
    found = []
    for a, b in itertools.permutations(range(len(stand)), 2):
        ways = {hall[3][a][2], hall[3][b][2]}
        one, other = cells_of(hall[3][a], stand[a]), cells_of(hall[3][b], stand[b])
        for word, along, across in (("row", 0, 1), ("column", 1, 0)):
            if ways == {word} and {cell[across] for cell in one} & {cell[across] for cell in other}:
                if max(cell[along] for cell in one) < min(cell[along] for cell in other):
                    found.append((a, b))
    return sorted(found)


def plain_neighbours(floor, cell):
    return sorted(floor & {min(moved_cells({cell}, direction)) for direction in DIRECTIONS})


def plain_ring_order(hall, stand):
    floor = plain_floor(hall)
    if {kind[:2] for kind in hall[3]} - {(1, 1)} or len(floor) < 4:
        return None
    if any(len(plain_neighbours(floor, cell)) != 2 for cell in floor):
        return None
    ring = [min(floor), plain_neighbours(floor, min(floor))[0]]
    while set(plain_neighbours(floor, ring[-1])) - set(ring):
        ring += set(plain_neighbours(floor, ring[-1])) - set(ring)
    if set(ring) != floor:
        return None
    order = sorted(range(len(stand)), key=lambda n: (ring.index(stand[n]) - ring.index(stand[0])) % len(ring))
    return tuple(order)


def plain_sign(hall, stand):
    floor = plain_floor(hall)
    free = floor - set(stand)
    if {kind[:2] for kind in hall[3]} - {(1, 1)} or len(free) != 1:
        return None
    standing = {place: n for n, place in enumerate(stand)}
    standing[min(free)] = len(stand)
    pairs = sum(standing[a] > standing[b] for a, b in itertools.combinations(sorted(floor), 2))
    return (pairs + sum(min(free))) % 2


def plain_kept(hall, stand):
    order = plain_ring_order(hall, stand)
    return (plain_sides(hall, stand), tuple(plain_lines(hall, stand)), order, plain_sign(hall, stand))


def plain_words(hall, one, other):
    words = ("sides", "lines", "ring", "sign")
    return [word for word, a, b in zip(words, plain_kept(hall, one), plain_kept(hall, other)) if a != b]


def plain_shows_never(hall, one, other, told):
    if type(told) is not tuple or len(told) != 2 or told[0] not in ("kept", "closed"):
        return False
    if told[0] == "kept":
        return told[1] in plain_words(hall, one, other)
    if not is_made_of(told[1], lambda thing: plain_is_stand(hall, thing), None):
        return False
    known = set(told[1])
    left = any(end not in known for stand in known for push, end in plain_ends(hall, stand))
    return one in known and other not in known and not left


def plain_stand_pairs(chance, halls):
    # Pairs of stands, of which the other is come to, or isn't for all kinds of reasons.
    for hall, stand in halls:
        ends = plain_come_to(hall, stand)
        for k in range(3):
            yield hall, chance.choice(ends), chance.choice(ends)
        yield hall, chance.choice(ends), stand
        for a, b in itertools.combinations(range(len(stand)), 2):
            if hall[3][a][:2] == hall[3][b][:2]:
                places = list(chance.choice(ends))
                places[a], places[b] = places[b], places[a]
                yield hall, stand, tuple(places)


def filled(chance, wide, high, walls, free):
    # A hall full of single trolleys of all ways and strengths, but for so many cells.
    floor = sorted({(x, y) for x in range(wide) for y in range(high)} - set(walls))
    stand = tuple(chance.sample(floor, max(len(floor) - free, 0)))
    kinds = [(1, 1, chance.choice(("any", "any", "any", "row", "column", "none")), chance.choice((1, 1, 0, -1)))
             for place in stand]
    return (wide, high, tuple(walls), tuple(kinds)), stand


def halls_that_spread(many, most, make):
    # Few stands are come to, so that all can be gone through, but not so few that nothing happens.
    halls = []
    seed = 0
    while len(halls) < many:
        seed += 1
        hall, stand = make(random.Random(seed))
        if len(stand) > 1 and 5 < len(plain_reach(hall, stand, most)) <= most:
            halls.append((hall, stand))
    return halls


SOME_HALLS = [some_hall(random.Random(seed), 9, 12) for seed in range(300)]
SMALL_HALLS = halls_that_spread(120, 150, lambda chance: some_hall(chance, 5, 5))


def shelf_hall(positions):
    # Row y has one trolley, which has positions[y] places there; it comes to each of the others by one push.
    kinds = tuple((10 - many, 1, "row", 0) for many in positions)
    return (9, len(positions), (), kinds), tuple((0, y) for y in range(len(positions)))


def walled(rows):
    # The walls of a picture, the greatest y first.
    high = len(rows)
    return tuple(sorted((x, high - 1 - k) for k, row in enumerate(rows) for x, sign in enumerate(row) if sign == "#"))


# Rooms of 29, 3 and 23 cells with one trolley each: 2,001 stands are come to.
ROOMS = (9, 9, walled([
    "######.#.",
    ".......#.",
    ".......#.",
    ".......##",
    ".......##",
    "#########",
    "##.......",
    "........#",
    "........#",
]), (WEAK, WEAK, WEAK))
ROOMS_STAND = ((0, 4), (8, 7), (0, 0))


def plain_dead(hall, stand, goals):
    return [one for one in plain_come_to(hall, stand)
            if not any(plain_meets(hall, end, goals) for end in plain_come_to(hall, one))]


def plain_no_return(hall, stand):
    return sorted(push for push, end in plain_ends(hall, stand) if stand not in plain_come_to(hall, end))


def plain_reach_of(hall, stand, n):
    kind, floor = hall[3][n], plain_floor(hall)
    steps = {"any": DIRECTIONS, "row": (EAST, WEST), "column": (NORTH, SOUTH), "none": ()}[kind[2]]
    places, before = {stand[n]}, None
    while before != places:
        before = set(places)
        for direction in steps:
            places |= {place for place in moved_cells(before, direction) if cells_of(kind, place) <= floor}
    return sorted(set().union(*[cells_of(kind, place) for place in places]))


def plain_parts(hall, stand):
    # Everybody takes the least number that is met in his reach, over and over, until nobody takes another.
    reaches = [set(plain_reach_of(hall, stand, n)) for n in range(len(stand))]
    least, before = list(range(len(stand))), None
    while before != least:
        before = list(least)
        least = [min(before[m] for m in range(len(stand)) if reaches[n] & reaches[m]) for n in range(len(stand))]
    return [[n for n in range(len(stand)) if least[n] == first] for first in sorted(set(least))]


def plain_part_of(hall, stand, numbers):
    return hall[:3] + (tuple(hall[3][n] for n in numbers),), tuple(stand[n] for n in numbers)


def plain_asked_parts(hall, stand, goals):
    # For each part that has a goal: its numbers, its hall, its stand and its goals.
    for numbers in plain_parts(hall, stand):
        own = [({n: k for k, n in enumerate(numbers)}[n], cell) for n, cell in goals if n in numbers]
        if own:
            yield (numbers,) + plain_part_of(hall, stand, numbers) + (own,)


def plain_shows_by_parts(hall, stand, goals, by, told):
    asked = list(plain_asked_parts(hall, stand, goals))
    if type(told) is not tuple or len(told) not in (3, 4) or told[0] != {3: "none", 4: "row"}[len(told)]:
        return False
    if len(told) == 3:
        return is_made_of(told[1], is_plain_number, None) and any(
            told[1] == numbers and plain_shows_least(alone, its, own, by, ("none", told[2]))
            for numbers, alone, its, own in asked)
    word, pushes, cost, rows = told
    if not is_made_of(pushes, lambda push: is_made_of(push, is_plain_number, 3), None) or not is_pair_of_numbers(cost):
        return False
    if type(rows) is not list or len(rows) != len(asked):
        return False
    together, total = [], (0, 0)
    for row, (numbers, alone, its, own) in zip(rows, asked):
        if type(row) is not tuple or len(row) != 2 or not is_made_of(row[0], is_plain_number, None):
            return False
        if row[0] != numbers or not plain_shows_least(alone, its, own, by, row[1]) or row[1][0] != "row":
            return False
        together += [(numbers[n], direction, many) for n, direction, many in row[1][1]]
        total = sum_of(total, row[1][2])
    return pushes == together and cost == total


def beside(chance, one, other):
    # Both halls, with a wall between them from the south to the north, and their trolleys numbered in any order.
    (wide, high, walls, kinds), stand = one
    further = other[0]
    walls = set(walls) | {(x + wide + 1, y) for x, y in further[2]} | {(wide, y) for y in range(9)}
    walls |= {(x, y) for x in range(wide) for y in range(high, further[1])}
    walls |= {(x + wide + 1, y) for x in range(further[0]) for y in range(further[1], high)}
    high = max(high, further[1])
    trolleys = list(zip(kinds, stand)) + [(kind, (x + wide + 1, y)) for kind, (x, y) in zip(further[3], other[1])]
    chance.shuffle(trolleys)
    walls = tuple(sorted(cell for cell in walls if cell[1] < high))
    hall = (wide + 1 + further[0], high, walls, tuple(kind for kind, place in trolleys))
    return hall, tuple(place for kind, place in trolleys)


def parted_hall(chance):
    return beside(chance, some_hall(chance, 4, 3), some_hall(chance, 4, 3))


def one_way_hall(chance):
    # A strong one beside a dull one, so that much can't be made good.
    (wide, high, walls, kinds), stand = some_hall(chance, 5, 3)
    strengths = (1, -1, chance.choice((-1, 0, 1)))
    kinds = tuple(kind[:2] + ("any", strong) for kind, strong in zip(kinds, strengths))
    return (wide, high, walls, kinds), stand


PARTED_HALLS = halls_that_spread(80, 150, parted_hall)
ONE_WAY_HALLS = halls_that_spread(60, 120, one_way_hall)
