"""Whether one stand is come to from another, as far as it is looked."""

from slidehall.keeping import unlike
from slidehall.pushing import leads_out
from slidehall.spreading import MOST_STANDS, row_to, spread


def judged(hall, one, other, deep):
    word = unlike(hall, one, other)
    if word is not None:
        # No row leads there then, so there is nothing to go through.
        return ("kept", word)
    found, ways = spread(hall, one, deep)
    if other in ways:
        return ("row", row_to(ways, other))
    if leads_out(hall, found[-1], ways):
        return ("open", len(ways))
    return ("closed", sorted(ways))


def meeting(hall, one, other):
    return judged(hall, one, other, MOST_STANDS)
