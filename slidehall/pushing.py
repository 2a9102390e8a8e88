"""Steps and pushes: who goes along, which are let by, and where they lead."""

from slidehall.errors import Barred
from slidehall.halls import WALL, covered, holders, within

STRONG = 1
DULL = -1

# By direction: what one step adds to x and to y.
STEPS = ((1, 0), (0, 1), (-1, 0), (0, -1))


def goes(ways, direction):
    if ways == "row":
        return direction % 2 == 0
    if ways == "column":
        return direction % 2 == 1
    return ways == "any"


def opposite(direction):
    return (direction + 2) % 4


def one_further(place, direction):
    east, north = STEPS[direction]
    return (place[0] + east, place[1] + north)


def met_by(hall, stand, held, n, direction):
    # None, unlike a list of nobody, says that n can't go there whoever goes along.
    kind = hall[3][n]
    if not goes(kind[2], direction):
        return None
    met = []
    for cell in covered(kind, one_further(stand[n], direction)):
        holder = held.get(cell, n)
        if holder == WALL or not within(hall[0], hall[1], cell):
            return None
        if holder != n and holder not in met:
            met.append(holder)
    return met


def movers_among(hall, stand, held, n, direction):
    strong = hall[3][n][3]
    if strong == DULL:
        return None
    going = [n]
    asked = 0
    while asked < len(going):
        met = met_by(hall, stand, held, going[asked], direction)
        if met is None or (met != [] and strong != STRONG):
            return None
        going.extend([other for other in met if other not in going])
        asked += 1
    return tuple(sorted(going))


def movers(hall, stand, n, direction):
    return movers_among(hall, stand, holders(hall, stand), n, direction)


def behind_step(stand, going, direction):
    places = list(stand)
    for n in going:
        places[n] = one_further(stand[n], direction)
    return tuple(places)


def pushed(hall, stand, push):
    n, direction, many = push
    behind = stand
    for step in range(many):
        going = movers(hall, behind, n, direction)
        if going is None:
            raise Barred(0, step)
        behind = behind_step(behind, going, direction)
    return behind


def stands_along(hall, stand, held, n, direction):
    # held is told by the caller, since it is the same for all first steps from one stand.
    stands = []
    last = stand
    going = movers_among(hall, stand, held, n, direction)
    while going is not None:
        last = behind_step(last, going, direction)
        stands.append(last)
        going = movers(hall, last, n, direction)
    return stands


def pushes_with_ends(hall, stand):
    held = holders(hall, stand)
    pairs = []
    for n in range(len(stand)):
        for direction in range(4):
            ends = stands_along(hall, stand, held, n, direction)
            pairs.extend([((n, direction, many), end) for many, end in enumerate(ends, start=1)])
    return pairs


def all_pushes(hall, stand):
    return [push for push, end in pushes_with_ends(hall, stand)]


def leads_out(hall, stands, known):
    for stand in stands:
        for push, end in pushes_with_ends(hall, stand):
            if end not in known:
                return True
    return False


def gone_along(hall, stand, push):
    behind = pushed(hall, stand, push)
    return tuple([n for n in range(len(stand)) if behind[n] != stand[n]])


def back_of(hall, stand, push):
    n, direction, many = push
    if gone_along(hall, stand, push) != (n,):
        return None
    return (n, opposite(direction), many)
