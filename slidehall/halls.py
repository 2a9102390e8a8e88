"""Halls, the cells that their trolleys cover, and stands."""

WAYS = ("any", "row", "column", "none")
STRENGTHS = (1, 0, -1)
LONGEST_SIDE = 9

# Stands beside the trolleys' numbers where it is told who holds a cell, so it is none of these.
WALL = -1


def is_number(thing):
    # Python takes True and False for whole numbers; here they are none.
    return isinstance(thing, int) and not isinstance(thing, bool)


def is_tuple_of(thing, many):
    return isinstance(thing, tuple) and len(thing) == many


def is_cell(thing):
    return is_tuple_of(thing, 2) and is_number(thing[0]) and is_number(thing[1])


def within(wide, high, cell):
    return 0 <= cell[0] < wide and 0 <= cell[1] < high


def is_side(thing):
    return is_number(thing) and 1 <= thing <= LONGEST_SIDE


def is_kind(thing):
    if not is_tuple_of(thing, 4):
        return False
    wide, high, ways, strong = thing
    if not is_side(wide) or not is_side(high):
        return False
    return ways in WAYS and is_number(strong) and strong in STRENGTHS


def are_walls(wide, high, thing):
    if not isinstance(thing, tuple):
        return False
    for k, cell in enumerate(thing):
        if not is_cell(cell) or not within(wide, high, cell):
            return False
        if k > 0 and thing[k - 1] >= cell:
            return False
    return True


def is_hall(thing):
    if not is_tuple_of(thing, 4):
        return False
    wide, high, walls, kinds = thing
    if not is_number(wide) or not is_number(high) or wide < 1 or high < 1:
        return False
    if not are_walls(wide, high, walls) or not isinstance(kinds, tuple):
        return False
    return all([is_kind(kind) for kind in kinds])


def covered(kind, place):
    x, y = place
    cells = []
    for i in range(kind[0]):
        cells.extend([(x + i, y + j) for j in range(kind[1])])
    return cells


def fault_of(hall, places):
    wide, high, walls, kinds = hall
    taken = {}
    for wall in walls:
        taken[wall] = True
    for n, kind in enumerate(kinds):
        cells = covered(kind, places[n])
        for cell in cells:
            if cell in taken or not within(wide, high, cell):
                return n
        for cell in cells:
            taken[cell] = True
    return None


def is_stand(hall, thing):
    if not is_tuple_of(thing, len(hall[3])):
        return False
    return all([is_cell(place) for place in thing]) and fault_of(hall, thing) is None


def holders(hall, stand):
    held = {}
    for wall in hall[2]:
        held[wall] = WALL
    for n, kind in enumerate(hall[3]):
        for cell in covered(kind, stand[n]):
            held[cell] = n
    return held


def free_cells(hall, stand):
    held = holders(hall, stand)
    cells = []
    for x in range(hall[0]):
        cells.extend([(x, y) for y in range(hall[1]) if (x, y) not in held])
    return cells
