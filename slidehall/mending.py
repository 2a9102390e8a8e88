"""A trolley put into a hall, and rows of pushes mended."""

from slidehall.deadends import leading_to, with_hope
from slidehall.errors import Barred, NoRoom
from slidehall.halls import fault_of
from slidehall.leasts import least
from slidehall.rows import played


def put_in(hall, stand, kind, place):
    wide, high, walls, kinds = hall
    fuller = (wide, high, walls, kinds + (kind,))
    places = stand + (place,)
    if fault_of(fuller, places) is not None:
        raise NoRoom("the trolley can not stand there")
    return (fuller, places)


def played_as_far(hall, stand, pushes):
    try:
        return played(hall, stand, pushes)
    except Barred as refusal:
        return played(hall, stand, pushes[:refusal.push])


def mended(hall, stand, pushes, goals, by):
    hope = with_hope(hall, goals, leading_to(hall, stand))
    stands = played_as_far(hall, stand, pushes)
    # Hope that is lost never comes back, so the stands that have it are a beginning of all.
    many = len([end for end in stands[1:] if end in hope])
    return (many, least(hall, stands[many], goals, by))
