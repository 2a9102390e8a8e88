"""All stands that are come to by rows of pushes."""

from slidehall.errors import TooMany
from slidehall.pushing import pushes_with_ends

# Each layer has a stand at least, so behind so many pushes, too, all are come to, or too many.
MOST_STANDS = 2000


def refuse_too_many(stands):
    if len(stands) > MOST_STANDS:
        raise TooMany("too many stands are come to")


def layer_behind(hall, layer, ways):
    # ways has, for each stand that was come to, the push and the stand that led to it; it is added to here.
    further = []
    for stand in layer:
        for push, end in pushes_with_ends(hall, stand):
            if end not in ways:
                ways[end] = (push, stand)
                further.append(end)
        refuse_too_many(ways)
    return sorted(further)


def spread(hall, stand, most):
    ways = {stand: None}
    found = []
    layer = [stand]
    while layer != [] and len(found) < most:
        found.append(layer)
        layer = layer_behind(hall, layer, ways)
    if layer != []:
        found.append(layer)
    return (found, ways)


def row_to(ways, stand):
    pushes = []
    way = ways[stand]
    while way is not None:
        push, ahead = way
        pushes.append(push)
        way = ways[ahead]
    return list(reversed(pushes))


def layers(hall, stand, most):
    found, ways = spread(hall, stand, most)
    return found


def come_to(hall, stand):
    found, ways = spread(hall, stand, MOST_STANDS)
    return sorted(ways)
