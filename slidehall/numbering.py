"""All stands of a hall, whether one comes to them or not, numbered and told back."""

from slidehall.errors import NoStand, TooMany
from slidehall.halls import covered

MOST_NUMBERED = 5000


def bits_by_cell(hall):
    # Sets of cells are numbers then, so it is quickly seen whether two of them share one. A hall has its wide and
    # high where a kind has them.
    bits = {}
    bit = 1
    for cell in covered(hall, (0, 0)):
        bits[cell] = bit
        bit += bit
    return bits


def spots_of(hall, size):
    # Pairs of a place where one of that size can stand, and the bits of its cells.
    bits = bits_by_cell(hall)
    walls = sum([bits[cell] for cell in hall[2]])
    spots = []
    for x in range(hall[0] - size[0] + 1):
        for y in range(hall[1] - size[1] + 1):
            own = sum([bits[cell] for cell in covered(size, (x, y))])
            if own & walls == 0:
                spots.append(((x, y), own))
    return spots


def groups_of(hall):
    # Those of one size can stand in one another's places, so it is looked once for all of them.
    many = {}
    for kind in hall[3]:
        many[kind[:2]] = many.get(kind[:2], 0) + 1
    return [(size, many[size], spots_of(hall, size)) for size in many]


def kept_clear(group, bits):
    size, many, spots = group
    return (size, many, [spot for spot in spots if spot[1] & bits == 0])


def fill(groups, taken, found, most):
    # Adds to found all ways to give each group its many places, but stops as soon as there are more than most.
    if groups == []:
        found.append(taken)
        return
    if any([len(spots) < many for size, many, spots in groups]):
        return
    # Where least is left to choose it is seen first that nothing fits.
    size, many, spots = min(groups, key=lambda group: len(group[2]) - group[1])
    others = [group for group in groups if group[0] != size]
    for k, spot in enumerate(spots):
        if len(found) > most:
            return
        place, bits = spot
        left = [kept_clear(group, bits) for group in others]
        if many > 1:
            # This place is the least one of its size, so that no choice of places is met twice.
            left.append(kept_clear((size, many - 1, spots[k + 1:]), bits))
        fill(left, taken + [(size, place)], found, most)


def orders_of(groups):
    orders = 1
    for size, many, spots in groups:
        for k in range(many):
            orders *= k + 1
    return orders


def choices_of(hall):
    # The choices of places, each a list of pairs of a size and a place, and how many stands each of them makes.
    groups = groups_of(hall)
    orders = orders_of(groups)
    found = []
    fill(groups, [], found, MOST_NUMBERED // orders)
    if len(found) * orders > MOST_NUMBERED:
        raise TooMany("the hall has too many stands")
    return (found, orders)


def stands_of(hall, choice):
    # No two trolleys have one place, so a place that is in a stand is taken there.
    stands = [()]
    for kind in hall[3]:
        longer = []
        for stand in stands:
            fitting = [place for size, place in choice if size == kind[:2] and place not in stand]
            longer.extend([stand + (place,) for place in fitting])
        stands = longer
    return stands


def all_stands(hall):
    choices, orders = choices_of(hall)
    stands = []
    for choice in choices:
        stands.extend(stands_of(hall, choice))
    return sorted(stands)


def many_stands(hall):
    choices, orders = choices_of(hall)
    return len(choices) * orders


def number_of(hall, stand):
    return all_stands(hall).index(stand)


def stand_of(hall, number):
    stands = all_stands(hall)
    if not 0 <= number < len(stands):
        raise NoStand("there is no stand of that number")
    return stands[number]
