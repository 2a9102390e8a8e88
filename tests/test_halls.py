import copy
import unittest

from slidehall.halls import covered, fault_of, free_cells, is_hall, is_stand

UNIT = (1, 1, "any", 0)
WALL_CELLS = ((0, 0), (1, 2), (2, 1))
KINDS = ((1, 2, "any", 1), (2, 1, "row", 0), (1, 1, "column", -1), (9, 9, "none", 0))
HALL = (4, 3, WALL_CELLS, KINDS)

# Nothing here is a hall, a part of one, a stand or a place, but () as walls, kinds, or an empty stand.
NO_THINGS = (
    None, True, False, 0, -1, 10 ** 30, "", "any", "hall", (), [], (0,), [0], ((),), (((),),), [[]],
    (None, None), (True, False), ("a", "b"), (1, 2, 3), ((0, 0), (0, 0)), [(0, 0)], ((((((1,),),),),),),
)


def all_cells(wide, high):
    return tuple((x, y) for x in range(wide) for y in range(high))


def with_part(thing, number, part):
    return thing[:number] + (part,) + thing[number + 1:]


def hall_with_kind(kind):
    return (4, 3, WALL_CELLS, KINDS[:1] + (kind,) + KINDS[1:])


class TestIsHall(unittest.TestCase):
    def takes(self, hall):
        self.assertIs(is_hall(hall), True, hall)

    def takes_not(self, thing):
        self.assertIs(is_hall(thing), False, thing)

    def test_ordinary(self):
        self.takes(HALL)
        self.takes((9, 9, all_cells(3, 9), (UNIT,) * 12))

    def test_one_cell(self):
        self.takes((1, 1, (), ()))
        self.takes((1, 1, ((0, 0),), (UNIT,)))

    def test_all_cells_walls(self):
        self.takes((3, 2, all_cells(3, 2), ()))

    def test_any_size(self):
        great = 10 ** 40
        self.takes((great, 1, ((great - 1, 0),), (UNIT,)))
        self.takes((1, great, ((0, great - 1),), ()))
        self.takes((great, great, ((0, great - 1), (great - 1, 0)), ()))

    def test_any_many_trolleys(self):
        self.takes((1, 1, (), (UNIT,) * 500))

    def test_kind_greater_than_hall(self):
        self.takes((1, 1, (), ((9, 9, "any", 1), (1, 9, "none", -1))))

    def test_each_kind(self):
        for ways in ("any", "row", "column", "none"):
            for strong in (1, 0, -1):
                for side in range(1, 10):
                    self.takes((2, 2, (), ((side, 10 - side, ways, strong),)))

    def test_no_things(self):
        for thing in NO_THINGS:
            self.takes_not(thing)

    def test_list_for_tuple(self):
        self.takes_not(list(HALL))
        self.takes_not(with_part(HALL, 2, list(WALL_CELLS)))
        self.takes_not(with_part(HALL, 2, []))
        self.takes_not(with_part(HALL, 2, WALL_CELLS[:2] + ([2, 1],)))
        self.takes_not(with_part(HALL, 3, list(KINDS)))
        self.takes_not(with_part(HALL, 3, []))
        self.takes_not(hall_with_kind([1, 1, "any", 0]))

    def test_part_less_or_more(self):
        self.takes_not(HALL[:3])
        self.takes_not(HALL + ((),))
        self.takes_not(with_part(HALL, 2, ((0,),)))
        self.takes_not(with_part(HALL, 2, ((0, 0, 0),)))
        self.takes_not(hall_with_kind((1, 1, "any")))
        self.takes_not(hall_with_kind((1, 1, "any", 0, 0)))

    def test_no_numbers_for_numbers(self):
        # True would be 1 and False 0 to Python: each stands here where that number would be right.
        one = (1, 1, ((0, 0),), ((1, 1, "any", 1),))
        self.takes(one)
        for wrong in (True, False, None, "1", "", (), [], (1,), [1]):
            for number in (0, 1):
                self.takes_not(with_part(one, number, wrong))
                self.takes_not(with_part(one, 2, (with_part((0, 0), number, wrong),)))
            for number in (0, 1, 3):
                self.takes_not(with_part(one, 3, (with_part((1, 1, "any", 1), number, wrong),)))
        self.takes_not(with_part(one, 3, ((1, 1, "any", False),)))

    def test_no_parts_for_parts(self):
        for thing in NO_THINGS:
            if thing not in ((), ((0, 0), (0, 0))):
                self.takes_not(with_part(HALL, 2, thing))
            if thing != ():
                self.takes_not(with_part(HALL, 3, thing))
            self.takes_not(with_part(HALL, 2, (thing,)))
            self.takes_not(with_part(HALL, 2, ((0, 0), thing)))
            self.takes_not(hall_with_kind(thing))

    def test_wide_and_high_below_one(self):
        for less in (0, -1, -(10 ** 30)):
            self.takes_not((less, 1, (), ()))
            self.takes_not((1, less, (), ()))

    def test_walls_of_the_hall(self):
        for cell in ((-1, 0), (0, -1), (4, 0), (0, 3), (3, 3), (4, 2), (10 ** 30, 0)):
            self.takes_not((4, 3, (cell,), ()))
        self.takes((4, 3, ((0, 0), (0, 2), (3, 0), (3, 2)), ()))

    def test_walls_rise_and_are_unlike(self):
        self.takes_not((4, 3, ((0, 0), (0, 0)), ()))
        self.takes_not((4, 3, ((1, 0), (0, 0)), ()))
        self.takes_not((4, 3, ((0, 1), (0, 0)), ()))
        self.takes_not((4, 3, ((0, 0), (1, 0), (0, 1)), ()))
        self.takes((4, 3, ((0, 0), (0, 1), (1, 0)), ()))

    def test_wrong_kinds(self):
        for side in (0, -1, 10, 10 ** 30):
            self.takes_not(hall_with_kind((side, 1, "any", 0)))
            self.takes_not(hall_with_kind((1, side, "any", 0)))
        for ways in ("", "Any", "rows", "an", "any ", 0, None, ("any",), ["any"], True):
            self.takes_not(hall_with_kind((1, 1, ways, 0)))
        for strong in (2, -2, 10 ** 30, "0"):
            self.takes_not(hall_with_kind((1, 1, "any", strong)))

    def test_fifteen_deep(self):
        deep_tuple, deep_list = (), []
        for _ in range(14):
            deep_tuple, deep_list = (deep_tuple,), [deep_list]
        for deep in (deep_tuple, deep_list):
            self.takes_not(deep)
            self.takes_not(with_part(HALL, 2, (deep,)))
            self.takes_not(with_part(HALL, 3, (deep,)))

    def test_nothing_changed(self):
        thing = [4, 3, [[0, 0]], [[1, 1, "any", 0]]]
        before = copy.deepcopy(thing)
        is_hall(thing)
        is_hall((4, 3, (), thing))
        self.assertEqual(thing, before)


class TestCovered(unittest.TestCase):
    def test_one_cell(self):
        self.assertEqual(covered(UNIT, (3, 5)), [(3, 5)])

    def test_rises(self):
        self.assertEqual(covered((2, 3, "row", 1), (4, 1)), [(4, 1), (4, 2), (4, 3), (5, 1), (5, 2), (5, 3)])
        for wide in range(1, 10):
            for high in range(1, 10):
                cells = covered((wide, high, "none", -1), (1, 2))
                expected = {(x, y) for x in range(1, 1 + wide) for y in range(2, 2 + high)}
                self.assertEqual(cells, sorted(expected))

    def test_below_nought_and_far_beyond(self):
        self.assertEqual(covered((2, 1, "any", 0), (-1, -7)), [(-1, -7), (0, -7)])
        far = 10 ** 30
        self.assertEqual(covered((1, 2, "any", 0), (far, -far)), [(far, -far), (far, 1 - far)])

    def test_told_anew(self):
        told = covered((2, 2, "any", 0), (0, 0))
        told.append((9, 9))
        self.assertEqual(covered((2, 2, "any", 0), (0, 0)), [(0, 0), (0, 1), (1, 0), (1, 1)])


class TestFaultOf(unittest.TestCase):
    def test_stand(self):
        self.assertIsNone(fault_of((4, 3, WALL_CELLS, KINDS[:3]), ((0, 1), (2, 0), (3, 1))))

    def test_no_trolleys(self):
        self.assertIsNone(fault_of((1, 1, (), ()), ()))
        self.assertIsNone(fault_of((2, 1, all_cells(2, 1), ()), ()))

    def test_beyond_the_hall(self):
        hall = (5, 4, (), ((2, 3, "any", 0),))
        for x in range(-4, 8):
            for y in range(-4, 8):
                inside = 0 <= x <= 3 and 0 <= y <= 1
                self.assertEqual(fault_of(hall, ((x, y),)), None if inside else 0, (x, y))
        for far in (10 ** 30, -(10 ** 30)):
            self.assertEqual(fault_of(hall, ((far, 0),)), 0)
            self.assertEqual(fault_of(hall, ((0, far),)), 0)

    def test_wall(self):
        hall = (3, 3, ((1, 1),), (UNIT, (2, 2, "any", 0)))
        self.assertEqual(fault_of(hall, ((1, 1), (0, 0))), 0)
        for place in ((0, 0), (0, 1), (1, 0), (1, 1)):
            self.assertEqual(fault_of((3, 3, ((1, 1),), ((2, 2, "any", 0),)), (place,)), 0)
        self.assertEqual(fault_of(hall, ((0, 2), (1, 0))), 1)

    def test_cell_of_a_lesser_number(self):
        hall = (3, 3, (), (UNIT, UNIT, (2, 2, "any", 0)))
        self.assertEqual(fault_of(hall, ((2, 2), (2, 2), (0, 0))), 1)
        self.assertEqual(fault_of(hall, ((1, 1), (2, 2), (0, 0))), 2)
        self.assertIsNone(fault_of(hall, ((0, 2), (2, 2), (0, 0))))

    def test_least_number_goes(self):
        hall = (3, 1, ((0, 0),), (UNIT, UNIT, UNIT, UNIT))
        self.assertEqual(fault_of(hall, ((1, 0), (1, 0), (0, 0), (7, 0))), 1)
        self.assertEqual(fault_of(hall, ((1, 0), (2, 0), (0, 0), (7, 0))), 2)
        self.assertEqual(fault_of(hall, ((1, 0), (2, 0), (7, 0), (0, 0))), 2)
        self.assertEqual(fault_of(hall, ((-1, 0), (-1, 0), (7, 0), (0, 0))), 0)

    def test_kind_greater_than_hall(self):
        hall = (2, 2, (), (UNIT, (3, 1, "any", 0)))
        for place in all_cells(2, 2):
            self.assertEqual(fault_of(hall, ((0, 1), place)), 1)

    def test_twelve_trolleys(self):
        hall = (4, 3, (), (UNIT,) * 12)
        places = all_cells(4, 3)
        self.assertIsNone(fault_of(hall, places))
        self.assertEqual(fault_of(hall, places[:11] + places[:1]), 11)

    def test_great_hall(self):
        great = 10 ** 30
        hall = (great, great, (), ((2, 2, "any", 0),))
        self.assertIsNone(fault_of(hall, ((great - 2, great - 2),)))
        self.assertEqual(fault_of(hall, ((great - 1, 0),)), 0)


class TestIsStand(unittest.TestCase):
    hall = (3, 2, ((0, 0),), (UNIT, (2, 1, "any", 1)))
    stand = ((0, 1), (1, 0))

    def takes_not(self, thing):
        self.assertIs(is_stand(self.hall, thing), False, thing)

    def test_stand(self):
        self.assertIs(is_stand(self.hall, self.stand), True)
        self.assertIs(is_stand(self.hall, ((0, 1), (1, 1))), True)

    def test_all_places(self):
        numbers = range(-2, 5)
        stands = {((0, 1), (1, 0)), ((0, 1), (1, 1)), ((1, 0), (0, 1)), ((1, 0), (1, 1)), ((2, 0), (0, 1)),
                  ((2, 0), (1, 1)), ((1, 1), (1, 0)), ((2, 1), (0, 1)), ((2, 1), (1, 0))}
        for a in numbers:
            for b in numbers:
                for c in numbers:
                    for d in numbers:
                        thing = ((a, b), (c, d))
                        self.assertIs(is_stand(self.hall, thing), thing in stands, thing)

    def test_no_trolleys(self):
        for hall in ((1, 1, (), ()), (1, 1, ((0, 0),), ())):
            self.assertIs(is_stand(hall, ()), True)
            for thing in ([], None, False, 0, "", ((0, 0),), ((),)):
                self.assertIs(is_stand(hall, thing), False, thing)

    def test_no_room(self):
        self.assertIs(is_stand((1, 1, ((0, 0),), (UNIT,)), ((0, 0),)), False)
        self.assertIs(is_stand((8, 9, (), ((9, 9, "any", 0),)), ((0, 0),)), False)
        self.assertIs(is_stand((9, 9, (), ((9, 9, "any", 0),)), ((0, 0),)), True)

    def test_wrong_things(self):
        for thing in NO_THINGS:
            self.takes_not(thing)
            self.takes_not(with_part(self.stand, 0, thing))
            self.takes_not(with_part(self.stand, 1, thing))

    def test_list_for_tuple(self):
        self.takes_not(list(self.stand))
        self.takes_not(([0, 1], (1, 0)))
        self.takes_not(((0, 1), [1, 0]))

    def test_part_less_or_more(self):
        self.takes_not(self.stand[:1])
        self.takes_not(self.stand + ((2, 1),))
        self.takes_not(((0,), (1, 0)))
        self.takes_not(((0, 1, 0), (1, 0)))

    def test_true_and_false(self):
        self.takes_not(((False, 1), (1, 0)))
        self.takes_not(((0, True), (1, 0)))
        self.takes_not(((0, 1), (True, 0)))
        self.takes_not(((0, 1), (1, False)))

    def test_great_hall(self):
        great = 10 ** 30
        hall = (great, great, (), (UNIT,))
        self.assertIs(is_stand(hall, ((great - 1, great - 1),)), True)
        self.assertIs(is_stand(hall, ((great, 0),)), False)

    def test_nothing_changed(self):
        thing = [[0, 1], [1, 0]]
        is_stand(self.hall, thing)
        is_stand(self.hall, (thing, thing))
        self.assertEqual(thing, [[0, 1], [1, 0]])


class TestFreeCells(unittest.TestCase):
    def test_ordinary(self):
        hall = (4, 3, WALL_CELLS, KINDS[:3])
        told = free_cells(hall, ((0, 1), (2, 0), (3, 1)))
        self.assertEqual(told, [(1, 0), (1, 1), (2, 2), (3, 2)])

    def test_rises_by_x_first(self):
        self.assertEqual(free_cells((2, 3, (), ()), ()), [(0, 0), (0, 1), (0, 2), (1, 0), (1, 1), (1, 2)])

    def test_one_cell(self):
        self.assertEqual(free_cells((1, 1, (), ()), ()), [(0, 0)])
        self.assertEqual(free_cells((1, 1, ((0, 0),), ()), ()), [])
        self.assertEqual(free_cells((1, 1, (), (UNIT,)), ((0, 0),)), [])

    def test_all_walls(self):
        self.assertEqual(free_cells((5, 4, all_cells(5, 4), ()), ()), [])

    def test_twelve_trolleys(self):
        hall = (9, 9, all_cells(7, 9), (UNIT,) * 12)
        stand = tuple((7 + n // 6, n % 6) for n in range(12))
        self.assertEqual(free_cells(hall, stand), [(7, 6), (7, 7), (7, 8), (8, 6), (8, 7), (8, 8)])

    def test_told_anew(self):
        hall, stand = (2, 1, (), (UNIT,)), ((0, 0),)
        told = free_cells(hall, stand)
        told.clear()
        again = free_cells(hall, stand)
        self.assertEqual(again, [(1, 0)])
        self.assertIsNot(again, free_cells(hall, stand))


if __name__ == "__main__":
    unittest.main()
