"""The small checker of stands that are never come to."""

from slidehall.halls import is_stand, is_tuple_of
from slidehall.keeping import unlike_words
from slidehall.pushing import leads_out


def shows_closed(hall, one, other, stands):
    if not isinstance(stands, list) or not all([is_stand(hall, stand) for stand in stands]):
        return False
    known = {}
    for stand in stands:
        known[stand] = True
    return one in known and other not in known and not leads_out(hall, list(known), known)


def shows_never(hall, one, other, told):
    if not is_tuple_of(told, 2):
        return False
    word, shown = told
    if word == "kept":
        return shown in unlike_words(hall, one, other)
    return word == "closed" and shows_closed(hall, one, other, shown)
