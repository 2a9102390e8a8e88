"""What no push changes: sides, lines, the order round a ring, and the sign."""

from slidehall.halls import free_cells, holders
from slidehall.pushing import met_by, one_further

KEPT_WORDS = ("sides", "lines", "ring", "sign")


def without_trolleys(hall):
    return (hall[0], hall[1], hall[2], ())


def floor_of(hall):
    return free_cells(without_trolleys(hall), ())


def places_alone(hall, kind, place):
    # Whom a step meets is asked without a look at strength, so a dull one goes here like any other.
    alone = (hall[0], hall[1], hall[2], (kind,))
    walls = holders(without_trolleys(hall), ())
    known = {place: True}
    waiting = [place]
    while waiting != []:
        at = waiting.pop()
        for direction in range(4):
            further = one_further(at, direction)
            if further not in known and met_by(alone, (at,), walls, 0, direction) is not None:
                known[further] = True
                waiting.append(further)
    return sorted(known)


def sides(hall, stand):
    return tuple([places_alone(hall, kind, stand[n])[0] for n, kind in enumerate(hall[3])])


def share(one_least, one_many, other_least, other_many):
    return one_least < other_least + other_many and other_least < one_least + one_many


def goes_ahead(hall, stand, a, b):
    # Whether a is further west in a row, or further south in a column, that both go along.
    one, other = hall[3][a], hall[3][b]
    if one[2] != other[2]:
        return False
    if one[2] == "row":
        return stand[a][0] < stand[b][0] and share(stand[a][1], one[1], stand[b][1], other[1])
    if one[2] == "column":
        return stand[a][1] < stand[b][1] and share(stand[a][0], one[0], stand[b][0], other[0])
    return False


def lines(hall, stand):
    pairs = []
    for a in range(len(stand)):
        pairs.extend([(a, b) for b in range(len(stand)) if goes_ahead(hall, stand, a, b)])
    return pairs


def all_are_single(hall):
    return all([kind[:2] == (1, 1) for kind in hall[3]])


def neighbours_on(floor):
    known = {}
    for cell in floor:
        known[cell] = True
    neighbours = {}
    for cell in floor:
        near = [one_further(cell, direction) for direction in range(4)]
        neighbours[cell] = sorted([other for other in near if other in known])
    return neighbours


def ring_of(hall):
    # The cells round the ring, None where these are no ring. Cells with two neighbours each are rings of four
    # and more, so how many there are needs no look.
    floor = floor_of(hall)
    neighbours = neighbours_on(floor)
    if floor == [] or any([len(near) != 2 for near in neighbours.values()]):
        return None
    ring = [floor[0]]
    at = neighbours[floor[0]][0]
    while at != floor[0]:
        one, other = neighbours[at]
        further = other if one == ring[-1] else one
        ring.append(at)
        at = further
    if len(ring) < len(floor):
        return None
    return ring


def ring_order(hall, stand):
    if not all_are_single(hall):
        return None
    ring = ring_of(hall)
    if ring is None:
        return None
    held = holders(hall, stand)
    order = [held[cell] for cell in ring if cell in held]
    if order == []:
        return ()
    first = order.index(0)
    return tuple(order[first:] + order[:first])


def pairs_that_fall(numbers):
    falling = 0
    for k, number in enumerate(numbers):
        falling += len([later for later in numbers[k + 1:] if later < number])
    return falling


def sign(hall, stand):
    free = free_cells(hall, stand)
    if not all_are_single(hall) or len(free) != 1:
        return None
    held = holders(hall, stand)
    numbers = [held.get(cell, len(stand)) for cell in floor_of(hall)]
    x, y = free[0]
    return (pairs_that_fall(numbers) + x + y) % 2


def kept(hall, stand):
    return (sides(hall, stand), tuple(lines(hall, stand)), ring_order(hall, stand), sign(hall, stand))


def unlike_words(hall, one, other):
    kept_by_one = kept(hall, one)
    kept_by_other = kept(hall, other)
    return [word for k, word in enumerate(KEPT_WORDS) if kept_by_one[k] != kept_by_other[k]]


def unlike(hall, one, other):
    words = unlike_words(hall, one, other)
    if words == []:
        return None
    return words[0]
